"""Part 6: the operations, calls that count once, and the plain machine (6.2 to 6.7, 6.14)."""

import copy
import unittest

from cairn.plain import Plain
from support import seeded
from trees import PlainTree, check_bounds, random_path

A, B, F = ("a",), ("a", "b"), ("f",)


class Caller:
    """A machine, whose calls get the next slots and numbers."""

    def __init__(self, *operations):
        self.machine = Plain()
        self.slot = 0
        self.numbers = {}
        for operation in operations:
            assert self.call(operation)[0] == "ok", operation

    def call(self, operation, client=1):
        """Carry a call out. Returns its outcome."""
        self.slot += 1
        number = self.numbers.get(client, 0) + 1
        self.numbers[client] = number
        assert self.machine.apply(self.slot, client, number, operation) is None
        slot, kind, value = self.machine.answer_of(client, number)
        assert slot == self.slot
        return kind, value

    def nodes(self):
        return self.machine.dump()[0]


class PlainTest(unittest.TestCase):

    def refused(self, caller, expected, *operation):
        before = caller.nodes()
        self.assertEqual(caller.call(operation), (expected, ()))
        self.assertEqual(caller.nodes(), before)

    def ok(self, caller, expected, *operation):
        self.assertEqual(caller.call(operation), ("ok", expected))

    def octets(self, caller, path=F):
        return [node[3] for node in caller.nodes() if node[0] == path][0]


class NamesTest(PlainTest):
    """The operations that speak of names."""

    def test_make_and_create(self):
        caller = Caller()
        self.ok(caller, (), "make", A)
        self.ok(caller, (), "create", B)
        self.ok(caller, (), "create", F)
        self.assertEqual(caller.nodes(), (
            ((), "dir", 0, ()), (A, "dir", 1, ()), (B, "file", 2, ()), (F, "file", 3, ())))

    def test_errors_of_make_and_create(self):
        for word in ("make", "create"):
            caller = Caller(("make", A), ("create", F))
            self.refused(caller, "exists", word, ())
            self.refused(caller, "missing", word, ("x", "y"))
            self.refused(caller, "notdir", word, ("f", "x"))
            self.refused(caller, "notdir", word, ("f", "x", "y"))
            self.refused(caller, "exists", word, A)
            self.refused(caller, "exists", word, F)
            for number in range(58):
                self.ok(caller, (), "make", ("a", f"n{number}"))
            self.refused(caller, "full", word, ("g",))
            self.refused(caller, "exists", word, A)
            self.refused(caller, "missing", word, ("x", "y"))
            self.refused(caller, "notdir", word, ("f", "y"))
            self.ok(caller, (), "remove", F)
            self.ok(caller, (), word, ("g",))

    def test_remove(self):
        caller = Caller(("make", A), ("create", B), ("write", B, 0, (7,)))
        self.refused(caller, "root", "remove", ())
        self.refused(caller, "missing", "remove", ("x",))
        self.refused(caller, "notdir", "remove", ("a", "b", "c"))
        self.refused(caller, "notempty", "remove", A)
        self.ok(caller, (), "remove", B)
        self.ok(caller, (), "remove", A)
        self.assertEqual(caller.nodes(), (((), "dir", 0, ()),))

    def test_what_is_created_again_is_empty(self):
        caller = Caller(("create", F), ("write", F, 0, (7,)), ("remove", F), ("create", F))
        self.assertEqual(caller.nodes()[1], (F, "file", 4, ()))

    def test_rename(self):
        caller = Caller(("make", A), ("create", B), ("write", B, 0, (7, 8)), ("create", F), ("write", F, 0, (9,)))
        self.refused(caller, "root", "rename", (), A)
        self.refused(caller, "root", "rename", A, ())
        self.refused(caller, "missing", "rename", ("x",), ("y",))
        self.refused(caller, "notdir", "rename", ("f", "x"), ("y",))
        self.refused(caller, "inside", "rename", A, ("a", "x"))
        self.refused(caller, "missing", "rename", A, ("x", "y"))
        self.refused(caller, "notdir", "rename", A, ("f", "y"))
        self.refused(caller, "notdir", "rename", A, F)
        self.refused(caller, "isdir", "rename", F, A)
        self.ok(caller, (), "rename", F, F)
        # The contents go with a file, and those of a file that was replaced are gone.
        self.ok(caller, (), "rename", B, F)
        self.assertEqual(caller.nodes(), (((), "dir", 0, ()), (A, "dir", 1, ()), (F, "file", 2, (7, 8))))
        self.ok(caller, (), "rename", F, ("a", "z"))
        self.ok(caller, (), "rename", A, ("c",))
        self.ok(caller, (7, 8), "read", ("c", "z"), 0, 9)

    def test_rename_deep_and_notempty(self):
        caller = Caller(("make", A), ("make", B), ("make", ("a", "b", "c")), ("make", ("d",)), ("make", ("d", "e")))
        self.refused(caller, "deep", "rename", A, ("d", "e", "x"))
        self.refused(caller, "notempty", "rename", A, ("d",))
        self.ok(caller, (), "rename", A, ("d", "e"))
        self.assertEqual(len(caller.nodes()), 5)

    def test_list(self):
        caller = Caller(("make", ("z",)), ("create", F), ("make", A), ("create", B), ("create", ("a", "9")))
        self.ok(caller, ("a", "f", "z"), "list", ())
        self.ok(caller, ("9", "b"), "list", A)
        self.ok(caller, (), "list", ("z",))
        self.refused(caller, "missing", "list", ("x",))
        self.refused(caller, "notdir", "list", F)
        self.refused(caller, "notdir", "list", ("f", "x"))

    def test_stat(self):
        caller = Caller(("make", A), ("create", B), ("create", F), ("write", F, 3, (1, 2)))
        self.ok(caller, ("dir", 2, 0), "stat", ())
        self.ok(caller, ("dir", 1, 1), "stat", A)
        self.ok(caller, ("file", 0, 2), "stat", B)
        self.ok(caller, ("file", 5, 3), "stat", F)
        self.refused(caller, "missing", "stat", ("x",))
        self.refused(caller, "notdir", "stat", ("f", "x"))


class ReadTest(PlainTest):

    def setUp(self):
        self.octets_in = tuple(range(100, 110))
        self.caller = Caller(("make", A), ("create", F), ("write", F, 0, self.octets_in), ("create", B))

    def test_ranges(self):
        for at in range(13):
            for count in range(13):
                self.ok(self.caller, self.octets_in[at:at + count], "read", F, at, count)

    def test_far_beyond_the_end(self):
        for number in (10, 11, 255, 256, 257, 10 ** 30):
            self.ok(self.caller, (), "read", F, number, 1)
            self.ok(self.caller, (), "read", F, number, number)
            self.ok(self.caller, self.octets_in, "read", F, 0, number)
            self.ok(self.caller, self.octets_in[4:], "read", F, 4, number)
            self.ok(self.caller, (), "read", B, 0, number)

    def test_errors(self):
        for at, count in ((0, 1), (10 ** 30, 10 ** 30)):
            self.refused(self.caller, "missing", "read", ("x",), at, count)
            self.refused(self.caller, "missing", "read", ("a", "x", "y"), at, count)
            self.refused(self.caller, "notdir", "read", ("f", "x"), at, count)
            self.refused(self.caller, "isdir", "read", A, at, count)
            self.refused(self.caller, "isdir", "read", (), at, count)


class WriteTest(PlainTest):

    def test_in_the_middle_and_at_the_end(self):
        caller = Caller(("create", F))
        self.ok(caller, 4, "write", F, 0, (1, 2, 3, 4))
        self.ok(caller, 4, "write", F, 1, (9, 8))
        self.assertEqual(self.octets(caller), (1, 9, 8, 4))
        self.ok(caller, 5, "write", F, 3, (7, 6))
        self.ok(caller, 7, "write", F, 5, (5, 0))
        self.assertEqual(self.octets(caller), (1, 9, 8, 7, 6, 5, 0))

    def test_gaps_are_filled_with_zeros(self):
        caller = Caller(("create", F))
        self.ok(caller, 3, "write", F, 2, (7,))
        self.ok(caller, 6, "write", F, 5, (8,))
        self.assertEqual(self.octets(caller), (0, 0, 7, 0, 0, 8))

    def test_without_octets(self):
        caller = Caller(("create", F))
        for at in (0, 1, 255, 256):
            self.ok(caller, 0, "write", F, at, ())
        self.refused(caller, "large", "write", F, 257, ())
        self.refused(caller, "large", "write", F, 10 ** 30, ())
        self.ok(caller, 2, "write", F, 0, (1, 2))
        self.ok(caller, 2, "write", F, 9, ())
        self.assertEqual(self.octets(caller), (1, 2))

    def test_bounds(self):
        caller = Caller(("create", F))
        for at, octets in ((256, (1,)), (255, (1, 2)), (193, (0,) * 64), (257, (1,)), (10 ** 30, (1,))):
            self.refused(caller, "large", "write", F, at, octets)
        self.ok(caller, 256, "write", F, 255, (1,))
        self.assertEqual(self.octets(caller), (0,) * 255 + (1,))
        self.ok(caller, 256, "write", F, 192, (2,) * 64)
        self.refused(caller, "large", "write", F, 256, (1,))
        self.ok(caller, 256, "write", F, 256, ())

    def test_errors_in_order(self):
        caller = Caller(("make", A), ("create", F))
        for at, octets in ((0, (1,)), (0, ()), (256, (1,)), (10 ** 30, ())):
            self.refused(caller, "missing", "write", ("x",), at, octets)
            self.refused(caller, "notdir", "write", ("f", "x"), at, octets)
            self.refused(caller, "isdir", "write", A, at, octets)
            self.refused(caller, "isdir", "write", (), at, octets)


class CutTest(PlainTest):

    def test_sizes(self):
        caller = Caller(("create", F), ("write", F, 0, (1, 2, 3)))
        self.ok(caller, (), "cut", F, 3)
        self.assertEqual(self.octets(caller), (1, 2, 3))
        self.ok(caller, (), "cut", F, 2)
        self.assertEqual(self.octets(caller), (1, 2))
        self.ok(caller, (), "cut", F, 4)
        self.assertEqual(self.octets(caller), (1, 2, 0, 0))
        self.ok(caller, (), "cut", F, 0)
        self.assertEqual(self.octets(caller), ())
        for size in (255, 256):
            self.ok(caller, (), "cut", F, size)
            self.ok(caller, ("file", size, 1), "stat", F)

    def test_what_was_cut_does_not_return(self):
        caller = Caller(("create", F), ("write", F, 0, (1, 2, 3)), ("cut", F, 1), ("cut", F, 3))
        self.assertEqual(self.octets(caller), (1, 0, 0))

    def test_errors_in_order(self):
        caller = Caller(("make", A), ("create", F), ("write", F, 0, (1, 2, 3)))
        for size in (257, 300, 10 ** 30):
            self.refused(caller, "large", "cut", F, size)
        for size in (0, 5, 257, 10 ** 30):
            self.refused(caller, "missing", "cut", ("x",), size)
            self.refused(caller, "notdir", "cut", ("f", "x"), size)
            self.refused(caller, "isdir", "cut", A, size)
            self.refused(caller, "isdir", "cut", (), size)


class CountOnceTest(unittest.TestCase):

    def test_at_first(self):
        machine = Plain()
        for client in range(1, 5):
            self.assertEqual(machine.last_number(client), 0)
            for number in (0, 1, 2):
                self.assertIsNone(machine.answer_of(client, number))
        self.assertEqual(machine.dump(), ((((), "dir", 0, ()),), ()))

    def test_only_the_next_number_counts(self):
        for client in range(1, 5):
            machine = Plain()
            for number in (0, 2, 3, 10 ** 20):
                machine.apply(1, client, number, ("make", A))
                self.assertEqual(machine.dump(), Plain().dump())
            machine.apply(2, client, 1, ("make", A))
            self.assertEqual(machine.answer_of(client, 1), (2, "ok", ()))
            before = machine.dump()
            # The same number again with other operations, lower ones, and ones that skip.
            for number in (1, 0, 3, 4):
                for operation in (("make", A), ("remove", A), ("create", F)):
                    machine.apply(5, client, number, operation)
                    self.assertEqual(machine.dump(), before)
            machine.apply(9, client, 2, ("create", F))
            self.assertEqual(machine.last_number(client), 2)
            self.assertEqual(machine.answer_of(client, 2), (9, "ok", ()))

    def test_answers_of_the_last_call_only(self):
        machine = Plain()
        machine.apply(1, 3, 1, ("make", A))
        machine.apply(2, 3, 2, ("stat", A))
        self.assertIsNone(machine.answer_of(3, 1))
        self.assertIsNone(machine.answer_of(3, 3))
        self.assertIsNone(machine.answer_of(3, 0))
        self.assertIsNone(machine.answer_of(2, 2))
        self.assertEqual(machine.answer_of(3, 2), (2, "ok", ("dir", 0, 1)))

    def test_a_call_with_an_error_counts(self):
        machine = Plain()
        machine.apply(4, 1, 1, ("remove", ()))
        self.assertEqual((machine.last_number(1), machine.answer_of(1, 1)), (1, (4, "root", ())))
        machine.apply(5, 1, 1, ("make", A))
        self.assertEqual(machine.answer_of(1, 1), (4, "root", ()))
        machine.apply(6, 1, 2, ("make", A))
        self.assertEqual(machine.answer_of(1, 2), (6, "ok", ()))

    def test_what_is_no_operation_does_not_count(self):
        machine = Plain()
        for operation in (("erase", F), ("make",), ("make", A, 1), ("noop",), ()):
            machine.apply(1, 1, 1, operation)
            self.assertEqual(machine.dump(), Plain().dump())

    def test_clients_are_independent(self):
        machine = Plain()
        for client in (4, 2, 1, 3):
            machine.apply(10 * client, client, 1, ("make", (f"c{client}",)))
        machine.apply(50, 2, 2, ("list", ()))
        self.assertEqual([machine.last_number(client) for client in range(1, 5)], [1, 2, 1, 1])
        self.assertEqual(machine.dump()[1], (
            (1, 1, 10, "ok", ()), (2, 2, 50, "ok", ("c1", "c2", "c3", "c4")), (3, 1, 30, "ok", ()),
            (4, 1, 40, "ok", ()),
        ))

    def test_slots_may_be_left_out(self):
        machine = Plain()
        machine.apply(7, 1, 1, ("create", F))
        machine.apply(300, 1, 2, ("stat", F))
        self.assertEqual(machine.answer_of(1, 2), (300, "ok", ("file", 0, 7)))


class KindsTest(unittest.TestCase):

    def test_what_is_handed_in_and_out(self):
        operations = [("create", F), ("write", F, 0, (1, 2)), ("read", F, 0, 9), ("cut", F, 1)]
        kept = copy.deepcopy(operations)
        caller = Caller(*operations)
        self.assertEqual(operations, kept)
        nodes, calls = caller.machine.dump()
        self.assertEqual(nodes, (((), "dir", 0, ()), (F, "file", 1, (1,))))
        self.assertEqual(calls, ((1, 4, 4, "ok", ()),))
        self.assertIsInstance(caller.machine.dump(), tuple)
        for value in (nodes, calls, nodes[1], nodes[1][3], calls[0]):
            self.assertIsInstance(value, tuple)


class Reference:
    """Files by the words of 6.5, over the tree of these tests."""

    def __init__(self):
        self.tree = PlainTree()
        self.files = {}

    def carry_out(self, slot, operation):
        word, path, *rest = operation
        if word in ("make", "create"):
            kind = self.tree.add(path, "dir" if word == "make" else "file", slot)
            if (word, kind) == ("create", "ok"):
                self.files[slot] = []
            return kind, ()
        if word == "remove":
            return self.tree.delete(path)[0], ()
        if word == "rename":
            return self.tree.rename(path, *rest)[0], ()
        if word == "list":
            return self.tree.names(path)
        kind, what, birth = self.tree.node(path)
        if kind != "ok":
            return kind, ()
        octets = self.files.get(birth, [])
        if word == "stat":
            return "ok", (what, len(octets) if what == "file" else len(self.tree.names(path)[1]), birth)
        if what == "dir":
            return "isdir", ()
        if word == "read":
            return "ok", tuple(octets[rest[0]:][:rest[1]])
        if (rest[0] + len(rest[1]) if word == "write" else rest[0]) > 256:
            return "large", ()
        if word == "cut":
            self.files[birth] = (octets + [0] * 256)[:rest[0]]
            return "ok", ()
        at, new = rest
        for k, octet in enumerate(new):
            octets += [0] * (at + k + 1 - len(octets))
            octets[at + k] = octet
        return "ok", len(octets)

    def nodes(self):
        rows = [((), "dir", 0), *self.tree.rows()]
        return tuple((*row, tuple(self.files.get(row[2], ())) if row[1] == "file" else ()) for row in rows)


def random_operation(rng, names):
    """An operation, mostly one that may be carried out."""
    word = rng.choice((
        "make", "make", "create", "create", "create", "remove", "rename", "list", "stat", "read", "read", "write",
        "write", "write", "write", "cut",
    ))
    path = random_path(rng, names, 3)
    number = rng.choice((0, 1, 3, 10, 40, 200, 255, 256, 257, 10 ** 20))
    if word == "rename":
        return word, path, random_path(rng, names)
    if word == "read":
        return word, path, number, rng.choice((0, 1, 5, 20, 256, 10 ** 20))
    if word == "write":
        return word, path, number, tuple(rng.randrange(256) for _ in range(rng.choice((0, 1, 2, 5, 16, 64))))
    if word == "cut":
        return word, path, number
    return word, path


class WordsTest(unittest.TestCase):

    def test_many_calls(self):
        rng = seeded(1)
        kinds = {}
        for names, steps in (("ab", 600), ("abc", 600), ("abcdefgh", 1200)):
            for _ in range(2):
                machine, reference, last = Plain(), Reference(), {}
                for slot in range(1, steps):
                    client = rng.randrange(1, 5)
                    number = last.get(client, (0,))[0] + rng.choice((1, 1, 1, 1, 1, 0, 2, -1))
                    operation = random_operation(rng, names)
                    machine.apply(slot, client, number, operation)
                    if number == last.get(client, (0,))[0] + 1:
                        last[client] = (number, slot, *reference.carry_out(slot, operation))
                        kinds[operation[0], last[client][2]] = True
                    nodes, calls = machine.dump()
                    self.assertEqual(nodes, reference.nodes())
                    self.assertEqual(calls, tuple((found, *last[found]) for found in sorted(last)))
                    check_bounds(self, nodes[1:])
                    self.assertTrue(all(len(node[3]) <= 256 for node in nodes))
        # Nearly all operations with nearly all of their errors.
        self.assertGreater(len(kinds), 40)


if __name__ == "__main__":
    unittest.main()
