"""The files of the store: the tree of names together with the contents of files."""

from cairn.tree import Tree

MOST_OCTETS = 256


class Files:
    """Carries operations out. What the contents of a file are is left to `form`.

    Contents are lists. `form` has the methods `measured(contents)`, the number of octets,
    `range_of(contents, at, count)`, `changed(contents, at, size, source)`, the contents with `size`
    octets from a source, and `fitted(contents, size)`; they return new lists.
    """

    def __init__(self, form):
        self._form = form
        self._tree = Tree()
        # For each file, by its birth.
        self._contents = {}

    def outcome(self, slot, operation):
        """Carry out an operation. Returns its outcome, or None if it is no operation."""
        match operation:
            case ("make", path):
                return self._tree.make(path, slot), ()
            case ("create", path):
                return self._create(path, slot)
            case ("remove", path):
                return self._without(self._tree.delete(path))
            case ("rename", old, new):
                return self._without(self._tree.rename(old, new))
            case ("list", path):
                return self._tree.names(path)
            case ("stat", path):
                return self._stat(path)
            case ("read", path, at, count):
                return self._read(path, at, count)
            case ("write", path, at, octets):
                return self.write(path, at, len(octets), octets)
            case ("cut", path, size):
                return self._cut(path, size)
        return None

    def write(self, path, at, size, source):
        """Put `size` octets from a source into a file. Returns the outcome."""
        kind, birth = self._file(path)
        if kind == "ok" and at + size > MOST_OCTETS:
            kind = "large"
        if kind != "ok":
            return kind, ()
        if size > 0:
            self._contents[birth] = self._form.changed(self._contents[birth], at, size, source)
        return "ok", self._form.measured(self._contents[birth])

    def contents_at(self, path):
        """The contents of a file, or None if the path is not that of a file."""
        kind, birth = self._file(path)
        return list(self._contents[birth]) if kind == "ok" else None

    def all_contents(self):
        """The contents of all files."""
        return [list(self._contents[birth]) for birth in self._contents]

    def rows(self):
        """All nodes as tuples (path, what, birth, contents), in ascending order of the paths."""
        nodes = [((), "dir", 0)] + self._tree.paths()
        return tuple([(path, what, birth, self._shown(what, birth)) for path, what, birth in nodes])

    def _shown(self, what, birth):
        return tuple(self._contents[birth]) if what == "file" else ()

    def _file(self, path):
        """The error if the path is not that of a file, or "ok", and the birth of the file."""
        kind, what, birth = self._tree.node(path)
        if what == "dir":
            return "isdir", 0
        return kind, birth

    def _create(self, path, slot):
        kind = self._tree.create(path, slot)
        if kind == "ok":
            self._contents[slot] = []
        return kind, ()

    def _without(self, result):
        """The outcome of what may have removed a file: the pair (kind, birth of the file or 0)."""
        kind, gone = result
        if gone > 0:
            del self._contents[gone]
        return kind, ()

    def _stat(self, path):
        kind, what, birth = self._tree.node(path)
        if kind != "ok":
            return kind, ()
        if what == "file":
            return "ok", ("file", self._form.measured(self._contents[birth]), birth)
        return "ok", ("dir", len(self._tree.names(path)[1]), birth)

    def _read(self, path, at, count):
        kind, birth = self._file(path)
        if kind != "ok":
            return kind, ()
        return "ok", tuple(self._form.range_of(self._contents[birth], at, count))

    def _cut(self, path, size):
        kind, birth = self._file(path)
        if kind == "ok" and size > MOST_OCTETS:
            kind = "large"
        if kind == "ok":
            self._contents[birth] = self._form.fitted(self._contents[birth], size)
        return kind, ()
