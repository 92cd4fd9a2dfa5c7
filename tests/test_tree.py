"""Part 6: the tree of names (6.2 to 6.5, 6.14)."""

import itertools
import unittest

from cairn.tree import Tree
from support import seeded
from trees import PlainTree, check_bounds, random_path


def path_of(text):
    return tuple(text.split("/")) if text else ()


def tree_of(*texts):
    """A tree with these directories, or files where a text ends in a point; births count from 1."""
    tree = Tree()
    for birth, text in enumerate(texts, 1):
        add = tree.create if text.endswith(".") else tree.make
        assert add(path_of(text.rstrip(".")), birth) == "ok"
    return tree


class TreeTest(unittest.TestCase):

    def refused(self, tree, expected, method, *arguments):
        before = tree.paths()
        self.assertEqual(getattr(tree, method)(*arguments), expected)
        self.assertEqual(tree.paths(), before)


def full_tree():
    """60 nodes: the directory d, the file f, and others."""
    tree = tree_of("d", "f.")
    for number in range(58):
        assert tree.make((f"n{number}",), 10 + number) == "ok"
    return tree


class AddTest(TreeTest):

    def test_an_empty_tree(self):
        tree = Tree()
        self.assertEqual((tree.paths(), tree.size()), ([], 0))
        self.assertEqual(tree.names(()), ("ok", ()))
        self.assertEqual(tree.node(()), ("ok", "dir", 0))

    def test_directories_and_files(self):
        tree = Tree()
        self.assertEqual(tree.make(("a",), 3), "ok")
        self.assertEqual(tree.create(("a", "b"), 5), "ok")
        self.assertEqual(tree.create(("c",), 9), "ok")
        self.assertEqual(tree.paths(), [(("a",), "dir", 3), (("a", "b"), "file", 5), (("c",), "file", 9)])
        self.assertEqual(tree.size(), 3)

    def test_each_depth(self):
        tree = Tree()
        for depth in range(1, 5):
            self.assertEqual(tree.make(("x",) * depth, depth), "ok")
            self.assertEqual(tree.create(("x",) * (depth - 1) + ("f",), 10 + depth), "ok")
        self.assertEqual(tree.node(("x",) * 4), ("ok", "dir", 4))
        self.assertEqual(tree.node(("x", "x", "x", "f")), ("ok", "file", 14))

    def test_one_name_in_several_directories(self):
        tree = tree_of("a", "b", "a/b", "b/a", "a/a.")
        self.assertEqual(tree.size(), 5)
        self.assertEqual(tree.names(("a",)), ("ok", ("a", "b")))

    def test_errors(self):
        for method in ("make", "create"):
            tree = tree_of("a", "f.", "a/b", "a/g.")
            self.refused(tree, "exists", method, (), 9)
            self.refused(tree, "missing", method, ("x", "y"), 9)
            self.refused(tree, "missing", method, ("a", "x", "y"), 9)
            self.refused(tree, "missing", method, ("x", "y", "z", "a"), 9)
            self.refused(tree, "notdir", method, ("f", "x"), 9)
            self.refused(tree, "notdir", method, ("f", "x", "y"), 9)
            self.refused(tree, "notdir", method, ("a", "g", "x", "y"), 9)
            for path in (("a",), ("f",), ("a", "b"), ("a", "g")):
                self.refused(tree, "exists", method, path, 9)

    def test_sixty_nodes(self):
        for method in ("make", "create"):
            tree = full_tree()
            self.assertEqual(tree.size(), 60)
            self.refused(tree, "full", method, ("new",), 100)
            self.refused(tree, "full", method, ("d", "new"), 100)
            # The errors before it come first.
            self.refused(tree, "exists", method, (), 100)
            self.refused(tree, "missing", method, ("x", "y"), 100)
            self.refused(tree, "notdir", method, ("f", "x", "y"), 100)
            self.refused(tree, "notdir", method, ("f", "x"), 100)
            self.refused(tree, "exists", method, ("d",), 100)
            self.assertEqual(tree.delete(("n0",)), ("ok", 0))
            self.assertEqual(tree.size(), 59)
            self.assertEqual(getattr(tree, method)(("d", "new"), 100), "ok")
            self.refused(tree, "full", method, ("n0",), 101)

    def test_a_full_tree_may_be_renamed(self):
        tree = full_tree()
        self.assertEqual(tree.rename(("f",), ("d", "f")), ("ok", 0))
        self.assertEqual(tree.rename(("n1",), ("n0",)), ("ok", 0))
        self.assertEqual(tree.size(), 59)


class DeleteTest(TreeTest):

    def test_nodes_of_both_kinds(self):
        tree = tree_of("a", "a/f.", "a/d")
        self.assertEqual(tree.delete(("a", "f")), ("ok", 2))
        self.assertEqual(tree.delete(("a", "d")), ("ok", 0))
        self.assertEqual(tree.paths(), [(("a",), "dir", 1)])
        self.assertEqual(tree.delete(("a",)), ("ok", 0))
        self.assertEqual((tree.paths(), tree.size()), ([], 0))

    def test_errors(self):
        tree = tree_of("a", "a/f.", "g.")
        self.refused(tree, ("root", 0), "delete", ())
        self.refused(tree, ("missing", 0), "delete", ("x",))
        self.refused(tree, ("missing", 0), "delete", ("a", "x"))
        self.refused(tree, ("missing", 0), "delete", ("x", "a", "b", "c"))
        self.refused(tree, ("notdir", 0), "delete", ("g", "x"))
        self.refused(tree, ("notdir", 0), "delete", ("a", "f", "x", "y"))
        self.refused(tree, ("notempty", 0), "delete", ("a",))

    def test_the_root_comes_first(self):
        # The root has names, too.
        self.refused(tree_of("a"), ("root", 0), "delete", ())

    def test_what_is_made_again_has_a_new_birth(self):
        tree = tree_of("a.")
        tree.delete(("a",))
        self.assertEqual(tree.create(("a",), 7), "ok")
        self.assertEqual(tree.node(("a",)), ("ok", "file", 7))
        self.assertEqual(tree.delete(("a",)), ("ok", 7))


class RenameTest(TreeTest):

    def test_a_file_and_a_directory(self):
        tree = tree_of("a", "f.", "d")
        self.assertEqual(tree.rename(("f",), ("a", "g")), ("ok", 0))
        self.assertEqual(tree.rename(("d",), ("e",)), ("ok", 0))
        self.assertEqual(tree.paths(), [(("a",), "dir", 1), (("a", "g"), "file", 2), (("e",), "dir", 3)])

    def test_a_directory_with_all_that_is_in_it(self):
        tree = tree_of("a", "a/b", "a/b/f.", "a/c.", "d", "ab", "ab/x.")
        self.assertEqual(tree.rename(("a",), ("d", "z")), ("ok", 0))
        self.assertEqual(tree.paths(), [
            (("ab",), "dir", 6), (("ab", "x"), "file", 7), (("d",), "dir", 5), (("d", "z"), "dir", 1),
            (("d", "z", "b"), "dir", 2), (("d", "z", "b", "f"), "file", 3), (("d", "z", "c"), "file", 4),
        ])

    def test_equal_paths(self):
        tree = tree_of("a", "a/f.", "d")
        for path in (("a",), ("a", "f"), ("d",)):
            before = tree.paths()
            self.assertEqual(tree.rename(path, path), ("ok", 0))
            self.assertEqual(tree.paths(), before)

    def test_existing_targets(self):
        tree = tree_of("f.", "g.", "d", "e")
        self.assertEqual(tree.rename(("f",), ("g",)), ("ok", 2))
        self.assertEqual(tree.rename(("d",), ("e",)), ("ok", 0))
        self.assertEqual(tree.paths(), [(("e",), "dir", 3), (("g",), "file", 1)])
        self.assertEqual(tree.size(), 2)

    def test_a_directory_with_names_replaces_an_empty_one(self):
        tree = tree_of("d", "d/x.", "e")
        self.assertEqual(tree.rename(("d",), ("e",)), ("ok", 0))
        self.assertEqual(tree.paths(), [(("e",), "dir", 1), (("e", "x"), "file", 2)])

    def test_into_ones_own_parent_and_up(self):
        tree = tree_of("a", "a/b", "a/b/c.")
        self.assertEqual(tree.rename(("a", "b", "c"), ("a", "c")), ("ok", 0))
        self.assertEqual(tree.rename(("a", "b"), ("b",)), ("ok", 0))
        self.assertEqual([path for path, _, _ in tree.paths()], [("a",), ("a", "c"), ("b",)])

    def test_the_root(self):
        tree = tree_of("a", "f.")
        for old, new in (((), ("a",)), (("a",), ()), ((), ()), ((), ("f", "x")), (("f",), ()), ((), ("x",))):
            self.refused(tree, ("root", 0), "rename", old, new)

    def test_resolving_the_old_path(self):
        tree = tree_of("a", "f.")
        for new in (("n",), ("a", "n"), ("f",), ("a",)):
            self.refused(tree, ("missing", 0), "rename", ("x",), new)
            self.refused(tree, ("missing", 0), "rename", ("a", "x"), new)
            self.refused(tree, ("missing", 0), "rename", ("x", "y", "z"), new)
            self.refused(tree, ("notdir", 0), "rename", ("f", "x"), new)
            self.refused(tree, ("notdir", 0), "rename", ("f", "x", "y"), new)

    def test_inside(self):
        tree = tree_of("a", "a/b", "f.", "a/g.")
        for old, new in (
            (("a",), ("a", "x")), (("a",), ("a", "b")), (("a",), ("a", "b", "x")), (("a", "b"), ("a", "b", "c", "d")),
            (("f",), ("f", "x")),
        ):
            self.refused(tree, ("inside", 0), "rename", old, new)

    def test_what_only_looks_like_inside(self):
        tree = tree_of("a", "ab", "a/b")
        self.assertEqual(tree.rename(("a",), ("ab", "a")), ("ok", 0))
        self.assertEqual([path for path, _, _ in tree.paths()], [("ab",), ("ab", "a"), ("ab", "a", "b")])

    def test_resolving_the_new_path(self):
        tree = tree_of("a", "f.", "a/g.")
        self.refused(tree, ("missing", 0), "rename", ("f",), ("x", "y"))
        self.refused(tree, ("missing", 0), "rename", ("f",), ("a", "x", "y"))
        self.refused(tree, ("notdir", 0), "rename", ("a",), ("f", "x", "y"))
        self.refused(tree, ("notdir", 0), "rename", ("a",), ("f", "x"))
        self.refused(tree, ("notdir", 0), "rename", ("f",), ("a", "g", "x"))

    def test_targets_that_must_not_be_replaced(self):
        tree = tree_of("d", "e", "e/x.", "f.")
        self.refused(tree, ("notdir", 0), "rename", ("d",), ("f",))
        self.refused(tree, ("notdir", 0), "rename", ("d",), ("e", "x"))
        self.refused(tree, ("isdir", 0), "rename", ("f",), ("d",))
        self.refused(tree, ("isdir", 0), "rename", ("e", "x"), ("d",))
        self.refused(tree, ("notempty", 0), "rename", ("d",), ("e",))

    def test_a_target_above_oneself(self):
        tree = tree_of("a", "a/b", "a/f.")
        self.refused(tree, ("notempty", 0), "rename", ("a", "b"), ("a",))
        self.refused(tree, ("isdir", 0), "rename", ("a", "f"), ("a",))

    def test_too_deep(self):
        tree = tree_of("a", "a/b", "a/b/c", "d", "d/e", "d/e/f", "h.", "d/e/f/g.")
        self.refused(tree, ("deep", 0), "rename", ("d",), ("a", "x"))
        self.refused(tree, ("deep", 0), "rename", ("a",), ("d", "e", "x"))
        self.refused(tree, ("deep", 0), "rename", ("a", "b"), ("d", "e", "f", "x"))
        self.assertEqual(tree.rename(("h",), ("d", "e", "f", "x")), ("ok", 0))
        self.assertEqual(tree.rename(("a", "b"), ("d", "e", "x")), ("ok", 0))
        self.assertEqual(tree.node(("d", "e", "x", "c")), ("ok", "dir", 3))

    def test_just_deep_enough(self):
        for depth in range(1, 4):
            for below in range(4):
                tree = tree_of(*["/".join("x" * k) for k in range(1, depth + 1)])
                for k in range(1, below + 2):
                    self.assertEqual(tree.make(("y",) * k, 10 + k), "ok")
                expected = "ok" if depth + 1 + below <= 4 else "deep"
                self.assertEqual(tree.rename(("y",), ("x",) * depth + ("y",)), (expected, 0))

    def test_the_order_of_the_errors(self):
        tree = tree_of(
            "a", "a/b", "a/b/c", "f.", "d", "d/e", "d/e/f.", "d/e/g", "d/e/g/h", "d/e/g/i.", "z", "z/y", "z/y/x", "z/y/x/w",
        )
        # The root, and an old path that is missing, or passes through a file.
        self.refused(tree, ("root", 0), "rename", ("q",), ())
        self.refused(tree, ("root", 0), "rename", ("f", "q"), ())
        # An old path that is missing, and a new one below it.
        self.refused(tree, ("missing", 0), "rename", ("q",), ("q", "r"))
        self.refused(tree, ("notdir", 0), "rename", ("f", "q"), ("f", "q", "r"))
        # A new path below the old one that is missing.
        self.refused(tree, ("inside", 0), "rename", ("a",), ("a", "q", "r"))
        self.refused(tree, ("inside", 0), "rename", ("d",), ("d", "e", "f", "q"))
        # A new path without a directory for it, which would be too deep as well.
        self.refused(tree, ("missing", 0), "rename", ("a",), ("d", "e", "q", "r"))
        self.refused(tree, ("notdir", 0), "rename", ("a",), ("d", "e", "f", "q"))
        # A target that must not be replaced, which would be too deep as well.
        self.refused(tree, ("notdir", 0), "rename", ("a",), ("d", "e", "f"))
        self.refused(tree, ("notdir", 0), "rename", ("a",), ("d", "e", "g", "i"))
        self.refused(tree, ("notempty", 0), "rename", ("z",), ("d", "e"))
        self.refused(tree, ("deep", 0), "rename", ("z",), ("d", "e", "g", "h"))
        # A file and a directory that has names.
        self.refused(tree, ("isdir", 0), "rename", ("f",), ("a",))
        self.refused(tree, ("isdir", 0), "rename", ("f",), ("d", "e"))

    def test_a_replaced_file_that_would_be_the_deepest(self):
        tree = tree_of("a", "a/b", "a/b/c", "a/b/c/d.", "e.")
        self.assertEqual(tree.rename(("e",), ("a", "b", "c", "d")), ("ok", 4))
        self.assertEqual(tree.node(("a", "b", "c", "d")), ("ok", "file", 5))


class LookTest(TreeTest):

    def test_names(self):
        tree = tree_of("b", "a", "b/z.", "b/c", "b/10", "b/9", "b/aa")
        self.assertEqual(tree.names(()), ("ok", ("a", "b")))
        self.assertEqual(tree.names(("b",)), ("ok", ("10", "9", "aa", "c", "z")))
        self.assertEqual(tree.names(("a",)), ("ok", ()))

    def test_names_of_what_has_none(self):
        tree = tree_of("a", "f.")
        self.refused(tree, ("missing", ()), "names", ("x",))
        self.refused(tree, ("missing", ()), "names", ("a", "x", "y"))
        self.refused(tree, ("notdir", ()), "names", ("f",))
        self.refused(tree, ("notdir", ()), "names", ("f", "x"))

    def test_nodes(self):
        tree = tree_of("a", "f.", "a/g.")
        self.assertEqual(tree.node(("a",)), ("ok", "dir", 1))
        self.assertEqual(tree.node(("f",)), ("ok", "file", 2))
        self.assertEqual(tree.node(("a", "g")), ("ok", "file", 3))
        self.refused(tree, ("missing", "", 0), "node", ("x",))
        self.refused(tree, ("missing", "", 0), "node", ("a", "x", "g"))
        self.refused(tree, ("notdir", "", 0), "node", ("f", "x"))
        self.refused(tree, ("notdir", "", 0), "node", ("a", "g", "x", "y"))

    def test_the_first_name_with_an_error_counts(self):
        tree = tree_of("a", "f.")
        self.refused(tree, ("missing", "", 0), "node", ("x", "f", "y"))
        self.refused(tree, ("notdir", "", 0), "node", ("f", "x", "y"))

    def test_paths_ascend(self):
        tree = tree_of("b", "ab", "a", "a/z.", "b/a.", "a/y", "a/y/x.")
        paths = [path for path, _, _ in tree.paths()]
        self.assertEqual(paths, sorted(paths))
        self.assertEqual(len(paths), 7)

    def test_the_lists_are_new(self):
        tree = tree_of("a", "f.")
        tree.paths().clear()
        self.assertEqual(tree.paths(), [(("a",), "dir", 1), (("f",), "file", 2)])


class WordsTest(unittest.TestCase):

    METHODS = ("make", "create", "make", "delete", "rename", "rename")

    def step(self, rng, tree, plain, slot, names):
        method, path = rng.choice(self.METHODS), random_path(rng, names)
        if method == "rename":
            known = [row[0] for row in plain.rows()] or [()]
            old = rng.choice(known) if rng.randrange(3) else path
            new = rng.choice([random_path(rng, names), rng.choice(known), old + path[:1], old])[:4]
            self.assertEqual(tree.rename(old, new), plain.rename(old, new))
        elif method == "delete":
            self.assertEqual(tree.delete(path), plain.delete(path))
        else:
            what = "dir" if method == "make" else "file"
            self.assertEqual(getattr(tree, method)(path, slot), plain.add(path, what, slot))

    def same(self, tree, plain, names):
        rows = tree.paths()
        self.assertEqual(rows, plain.rows())
        self.assertEqual(tree.size(), len(rows))
        check_bounds(self, rows)

    def test_many_operations(self):
        rng = seeded(1)
        for names, steps in (("ab", 300), ("abc", 600), ("abcdefgh", 1500), ("a", 50)):
            for _ in range(4):
                tree, plain = Tree(), PlainTree()
                for slot in range(1, steps):
                    self.step(rng, tree, plain, slot, names)
                    self.same(tree, plain, names)
                    path = random_path(rng, names)
                    self.assertEqual(tree.names(path), plain.names(path))
                    self.assertEqual(tree.node(path), plain.node(path))

    def test_all_paths_of_a_small_tree(self):
        texts = ("a", "b.", "a/a", "a/b.", "a/a/a", "a/a/b.", "a/a/a/a")
        paths = [path for depth in range(5) for path in itertools.product("ab", repeat=depth)]
        plain = PlainTree()
        for birth, text in enumerate(texts, 1):
            plain.add(path_of(text.rstrip(".")), "file" if text.endswith(".") else "dir", birth)
        tree = tree_of(*texts)
        for path in paths:
            self.assertEqual(tree.names(path), plain.names(path))
            self.assertEqual(tree.node(path), plain.node(path))
        for old, new in itertools.product(paths, repeat=2):
            expected = plain.rename(old, new)
            self.assertEqual(tree.rename(old, new), expected)
            if expected[0] == "ok":
                self.assertEqual(tree.paths(), plain.rows())
                tree, plain = tree_of(*texts), PlainTree()
                for birth, text in enumerate(texts, 1):
                    plain.add(path_of(text.rstrip(".")), "file" if text.endswith(".") else "dir", birth)


if __name__ == "__main__":
    unittest.main()
