"""The tree of names, without the contents of files."""

DEEPEST = 4
MOST_NODES = 60
ROOT = ()


class Tree:
    """The tree. A file is known by its birth, the slot of the operation that made it."""

    def __init__(self):
        # For each path, that of the root included, what lies there, and its birth.
        self._nodes = {ROOT: ("dir", 0)}

    def make(self, path, slot):
        """Make an empty directory."""
        return self._added(path, "dir", slot)

    def create(self, path, slot):
        """Make a file."""
        return self._added(path, "file", slot)

    def delete(self, path):
        """Remove a node."""
        if path == ROOT:
            return "root", 0
        kind = self._fault(path)
        if kind != "ok":
            return kind, 0
        if self._names_in(path) != ():
            return "notempty", 0
        gone = self._file_birth(path)
        del self._nodes[path]
        return "ok", gone

    def rename(self, old, new):
        """Give a node another place."""
        kind = self._rename_fault(old, new)
        if kind != "ok" or old == new:
            return kind, 0
        gone = self._file_birth(new)
        # What lies at the new place goes first, so that what is moved there does not go with it.
        kept = {path: node for path, node in self._nodes.items() if path != new}
        self._nodes = {moved(path, old, new): node for path, node in kept.items()}
        return "ok", gone

    def names(self, path):
        """The names of a directory."""
        kind, what, _ = self.node(path)
        if kind != "ok":
            return kind, ()
        if what == "file":
            return "notdir", ()
        return "ok", self._names_in(path)

    def node(self, path):
        """What lies at the path, and its birth."""
        kind = self._fault(path)
        if kind != "ok":
            return kind, "", 0
        what, birth = self._nodes[path]
        return "ok", what, birth

    def paths(self):
        """All nodes but the root, in ascending order of their paths."""
        return [(path,) + self._nodes[path] for path in sorted(self._nodes) if path != ROOT]

    def size(self):
        """The number of nodes besides the root."""
        return len(self._nodes) - 1

    def _added(self, path, what, slot):
        """Make a node, if there is no error."""
        if path == ROOT:
            return "exists"
        kind = self._place_fault(path)
        if kind != "ok":
            return kind
        if path in self._nodes:
            return "exists"
        if self.size() >= MOST_NODES:
            return "full"
        self._nodes[path] = (what, slot)
        return "ok"

    def _fault(self, path):
        """The error of resolving the path, or "ok"."""
        for depth in range(len(path)):
            if self._nodes[path[:depth]][0] == "file":
                return "notdir"
            if path[:depth + 1] not in self._nodes:
                return "missing"
        return "ok"

    def _place_fault(self, path):
        """The error if the last name of the path has no directory to stand in, or "ok"."""
        kind = self._fault(path[:-1])
        if kind == "ok" and self._nodes[path[:-1]][0] == "file":
            return "notdir"
        return kind

    def _rename_fault(self, old, new):
        """The error of giving a node another place, or "ok"."""
        if old == ROOT or new == ROOT:
            return "root"
        kind = self._fault(old)
        if kind != "ok":
            return kind
        if len(new) > len(old) and new[:len(old)] == old:
            return "inside"
        kind = self._place_fault(new)
        if kind == "ok" and new in self._nodes and new != old:
            kind = self._replace_fault(old, new)
        if kind == "ok" and len(new) + self._height(old) > DEEPEST:
            return "deep"
        return kind

    def _replace_fault(self, old, new):
        """The error if a node must not be replaced by another one, or "ok"."""
        old_what, new_what = self._nodes[old][0], self._nodes[new][0]
        if old_what == "dir" and new_what == "file":
            return "notdir"
        if old_what == "file" and new_what == "dir":
            return "isdir"
        return "notempty" if self._names_in(new) != () else "ok"

    def _names_in(self, path):
        """The names that stand directly below the path, in ascending order."""
        below = [other for other in self._nodes if other != ROOT and other[:-1] == path]
        return tuple(sorted([other[-1] for other in below]))

    def _height(self, path):
        """By how many names the longest path below this one is longer."""
        return max([len(other) - len(path) for other in self._nodes if other[:len(path)] == path])

    def _file_birth(self, path):
        """The birth of the file at the path, or 0 if none is there."""
        what, birth = self._nodes.get(path, ("dir", 0))
        return birth if what == "file" else 0


def moved(path, old, new):
    """The path after the node `old` has become `new`."""
    if path[:len(old)] == old:
        return new + path[len(old):]
    return path
