"""The tree by the words of part 6, as nodes that hold nodes."""


class Node:

    def __init__(self, what, birth):
        self.what = what
        self.birth = birth
        self.inside = {}

    def height(self):
        return max((1 + node.height() for node in self.inside.values()), default=0)

    def rows(self, path):
        found = []
        for name, node in self.inside.items():
            found.append((path + (name,), node.what, node.birth))
            found += node.rows(path + (name,))
        return found


class PlainTree:
    """What the operations that speak of names do (6.4, 6.5)."""

    def __init__(self):
        self.root = Node("dir", 0)

    def resolve(self, path):
        """The error, or "ok", and the node."""
        node = self.root
        for name in path:
            if node.what == "file":
                return "notdir", None
            if name not in node.inside:
                return "missing", None
            node = node.inside[name]
        return "ok", node

    def rows(self):
        return sorted(self.root.rows(()))

    def parent(self, path):
        kind, node = self.resolve(path[:-1])
        if kind == "ok" and node.what == "file":
            return "notdir", None
        return kind, node

    def add(self, path, what, birth):
        if not path:
            return "exists"
        kind, parent = self.parent(path)
        if kind != "ok":
            return kind
        if path[-1] in parent.inside:
            return "exists"
        if len(self.rows()) >= 60:
            return "full"
        parent.inside[path[-1]] = Node(what, birth)
        return "ok"

    def delete(self, path):
        if not path:
            return "root", 0
        kind, node = self.resolve(path)
        if kind != "ok":
            return kind, 0
        if node.inside:
            return "notempty", 0
        del self.parent(path)[1].inside[path[-1]]
        return "ok", node.birth if node.what == "file" else 0

    def rename(self, old, new):
        if not old or not new:
            return "root", 0
        kind, node = self.resolve(old)
        if kind != "ok":
            return kind, 0
        if len(new) > len(old) and new[:len(old)] == old:
            return "inside", 0
        kind, parent = self.parent(new)
        if kind != "ok":
            return kind, 0
        target = parent.inside.get(new[-1])
        if target is not None and old != new:
            if (node.what, target.what) == ("dir", "file"):
                return "notdir", 0
            if (node.what, target.what) == ("file", "dir"):
                return "isdir", 0
            if target.inside:
                return "notempty", 0
        if len(new) + node.height() > 4:
            return "deep", 0
        if old == new:
            return "ok", 0
        del self.parent(old)[1].inside[old[-1]]
        parent.inside[new[-1]] = node
        return "ok", target.birth if target is not None and target.what == "file" else 0

    def names(self, path):
        kind, node = self.resolve(path)
        if kind != "ok":
            return kind, ()
        if node.what == "file":
            return "notdir", ()
        return "ok", tuple(sorted(node.inside))

    def node(self, path):
        kind, node = self.resolve(path)
        return (kind, "", 0) if kind != "ok" else (kind, node.what, node.birth)


def check_bounds(test, rows):
    """Point 6.14, of the rows (path, what, birth) of all nodes but the root."""
    what_at = {(): "dir", **{path: what for path, what, *_ in rows}}
    test.assertEqual(len(what_at), len(rows) + 1)
    test.assertLessEqual(len(rows), 60)
    for path, *_ in rows:
        test.assertTrue(1 <= len(path) <= 4)
        test.assertEqual(what_at[path[:-1]], "dir")


def random_path(rng, names, most=4):
    return tuple(rng.choice(names) for _ in range(rng.randrange(most + 1)))
