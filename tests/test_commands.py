"""Part 7: the forms of commands and operations (7.2, 7.3)."""

import copy
import itertools
import unittest

from cairn.commands import is_command, is_operation

PATH = ("a", "b")
OPERATIONS = [
    ("make", PATH), ("create", PATH), ("remove", PATH), ("rename", PATH, ("c",)), ("list", PATH), ("stat", PATH),
    ("read", PATH, 3, 4), ("write", PATH, 3, (1, 2)), ("write", PATH, 3, ()), ("cut", PATH, 5),
]
COMMANDS = [
    ("noop",), ("intend", 1, 2), ("commit", 3, 1, 2, PATH, 4, 5), ("forget", 3),
    *[("do", 1, 2, operation) for operation in OPERATIONS if operation != ("write", PATH, 3, (1, 2))],
]
# The kind of each item behind the word.
OPERATION_KINDS = {
    "make": ["path"], "create": ["path"], "remove": ["path"], "rename": ["path", "path"], "list": ["path"],
    "stat": ["path"], "read": ["path", "natural", "natural"], "write": ["path", "natural", "octets"],
    "cut": ["path", "natural"],
}
COMMAND_KINDS = {
    "noop": [], "intend": ["client", "positive"],
    "commit": ["positive", "client", "positive", "path", "natural", "size"], "forget": ["positive"],
    "do": ["client", "positive", "op"],
}
ANYTHING = [None, "", "a", "1", [], {}, set(), 1.0, 2.5, b"a", True, False, (None,), ((),), ((), ()), ([],), object()]
LETTERS = "abcdefghijklmnopqrstuvwxyz0123456789"
PATHS = [
    (), ("a",), ("a", "b", "c", "d"), ("a", "a", "a", "a"), ("z", "0", "9"), ("abcdefgh",), ("12345678",), ("0",),
    *[(sign,) for sign in LETTERS],
]
BAD_NAMES = [
    "", "abcdefghi", "A", "aB", "a b", " ", "a/b", ".", "..", "a.b", "_", "-", "a\n", "\n", "\u00e4", "\u0663", "a%",
    "\u0430", "`", "{", "/", ":", "@", "[", "\u00b2",
]
NOT_NAMES = [1, 0, True, None, ("a",), ["a"], b"a", 2.0, (), {}]
RIGHT = {
    "path": PATHS,
    "natural": [0, 1, 2, 255, 256, 257, 10 ** 6, 10 ** 40],
    "octets": [(), (0,), (255,), (1, 2, 3), (0,) * 63, (255,) * 64],
    "client": [1, 2, 3, 4],
    "positive": [1, 2, 60000, 10 ** 40],
    "size": [1, 2, 63, 64],
    "op": [operation for operation in OPERATIONS if operation != ("write", PATH, 3, (1, 2))],
}
WRONG = {
    "path": [
        "", "a", "ab", ["a"], [], None, 1, 0, ("a",) * 5, ("a",) * 6, {"a": 1}, {}, b"a",
        *[(name,) for name in BAD_NAMES + NOT_NAMES], *[("a", name, "b") for name in BAD_NAMES + NOT_NAMES],
        *[("a", "b", "c", name) for name in BAD_NAMES + NOT_NAMES],
    ],
    "natural": [-1, -10 ** 40, True, False, None, "0", "1", 1.0, 0.0, (), (1,), [1], b"1"],
    "octets": [
        (256,), (-1,), (0, 256), (-1, 0), (1, 2, 300), (True,), (False,), (0, True), (None,), ("1",), (1.0,), ((1,),),
        [1, 2], [], "", "ab", None, 0, 5, b"", b"ab", (0,) * 65, (0,) * 100, {1: 2}, (10 ** 40,),
    ],
    "client": [0, -1, 5, 6, 10 ** 40, True, False, None, "1", 1.0, (1,), [1]],
    "positive": [0, -1, -10 ** 40, True, False, None, "1", 1.0, (1,), [1]],
    "size": [0, -1, 65, 66, 256, 10 ** 40, True, False, None, "1", 1.0, (1,), [1]],
    "op": [
        ("write", PATH, 3, (1,)), ("write", PATH, 3, (0,) * 64), ("write", PATH, 3, (0,) * 65), ("write", PATH, 3, [1]),
        ("write", PATH, 3, []), ("write", PATH, -1, ()), (), None, "make", ["make", PATH], ("noop",), ("do", 1, 2, ()),
        ("make",), ("intend", 1, 2), 1, True, ("erase", PATH), ("make", PATH, 1), (("make", PATH),),
    ],
}


class FormTest(unittest.TestCase):

    def is_right(self, check, value):
        with self.subTest(value=value):
            self.assertIs(check(value), True)

    def is_wrong(self, check, value):
        with self.subTest(value=value):
            self.assertIs(check(value), False)

    def with_one_thing_changed(self, check, values, kinds):
        for value in values:
            word, *items = value
            self.is_right(check, value)
            self.assertEqual(len(items), len(kinds[word]))
            for index, kind in enumerate(kinds[word], 1):
                for right in RIGHT[kind]:
                    self.is_right(check, (*value[:index], right, *value[index + 1:]))
                for wrong in WRONG[kind]:
                    self.is_wrong(check, (*value[:index], wrong, *value[index + 1:]))
            # An item more, one less, another order, a list for a tuple.
            for more in (0, 1, (), PATH, (1,), None, "a"):
                if not (word == "noop" and more is None):
                    self.is_wrong(check, (*value, more))
            if items:
                self.is_wrong(check, value[:-1])
                self.is_wrong(check, value[1:])
            self.is_wrong(check, (word, value))
            self.is_wrong(check, list(value))
            self.is_wrong(check, (value,))
            for other in (word.upper(), word.title(), word + "s", word[:-1], "", " " + word, None, 1, (word,), [word]):
                self.is_wrong(check, (other, *items))


class OperationTest(FormTest):

    def test_each_word_with_one_thing_changed(self):
        self.with_one_thing_changed(is_operation, OPERATIONS, OPERATION_KINDS)

    def test_words_of_other_operations(self):
        self.is_wrong(is_operation, ("rename", PATH, 3))
        self.is_wrong(is_operation, ("cut", PATH, ("c",)))
        self.is_wrong(is_operation, ("read", PATH, 3, ()))
        self.is_wrong(is_operation, ("write", PATH, 3, 4))
        for word in ("make", "create", "remove", "list", "stat"):
            self.is_wrong(is_operation, (word, PATH, ("c",)))
            self.is_wrong(is_operation, (word, PATH, 3))
        self.is_wrong(is_operation, ("rename", PATH))
        self.is_wrong(is_operation, ("read", PATH, 3))
        self.is_wrong(is_operation, ("cut", PATH, 3, 4))

    def test_commands_are_none(self):
        for command in COMMANDS:
            self.is_wrong(is_operation, command)

    def test_values_that_are_no_tuples_at_all(self):
        for value in ANYTHING + [(), ("",), (0,), 7, -1]:
            self.is_wrong(is_operation, value)

    def test_lists_for_tuples(self):
        self.is_wrong(is_operation, ("make", ["a"]))
        self.is_wrong(is_operation, ("write", PATH, 0, [1]))
        self.is_wrong(is_operation, ["make", ("a",)])

    def test_octets(self):
        for count in range(65):
            self.is_right(is_operation, ("write", PATH, 0, (7,) * count))
        for count in (65, 66, 200):
            self.is_wrong(is_operation, ("write", PATH, 0, (7,) * count))
        for octet in range(-2, 258):
            check = self.is_right if 0 <= octet <= 255 else self.is_wrong
            check(is_operation, ("write", PATH, 0, (1, octet)))

    def test_the_size_of_a_file_does_not_matter(self):
        self.is_right(is_operation, ("write", PATH, 10 ** 30, (1,)))
        self.is_right(is_operation, ("cut", PATH, 10 ** 30))
        self.is_right(is_operation, ("rename", (), ()))
        self.is_right(is_operation, ("make", ()))

    def test_each_sign(self):
        for code in range(300):
            sign = chr(code)
            check = self.is_right if sign in LETTERS else self.is_wrong
            check(is_operation, ("make", (sign,)))
            check(is_operation, ("make", ("a" + sign + "b",)))

    def test_lengths_of_names_and_paths(self):
        for length in range(12):
            check = self.is_right if 1 <= length <= 8 else self.is_wrong
            check(is_operation, ("stat", ("x" * length,)))
        for length in range(8):
            check = self.is_right if length <= 4 else self.is_wrong
            check(is_operation, ("stat", ("x",) * length))
            check(is_operation, ("rename", ("a",), ("x",) * length))


class CommandTest(FormTest):

    def test_each_form_with_one_thing_changed(self):
        self.with_one_thing_changed(is_command, COMMANDS, COMMAND_KINDS)

    def test_operations_are_none(self):
        for operation in OPERATIONS:
            self.is_wrong(is_command, operation)

    def test_do(self):
        for operation in OPERATIONS:
            check = self.is_wrong if operation[0] == "write" and operation[3] else self.is_right
            check(is_command, ("do", 4, 1, operation))
        self.is_wrong(is_command, ("do", 4, 1, ("noop",)))
        self.is_wrong(is_command, ("do", 4, 1, ("do", 4, 1, ("list", ()))))

    def test_a_do_of_a_write(self):
        self.is_right(is_command, ("do", 1, 1, ("write", (), 0, ())))
        self.is_right(is_command, ("do", 1, 1, ("write", PATH, 300, ())))
        for count in (1, 2, 64, 65):
            self.is_wrong(is_command, ("do", 1, 1, ("write", PATH, 0, (0,) * count)))
        self.is_wrong(is_command, ("do", 1, 1, ("write", ("A",), 0, ())))

    def test_values_that_are_no_tuples_at_all(self):
        for value in ANYTHING + [(), ("",), (0,), 7, -1]:
            self.is_wrong(is_command, value)

    def test_items_that_have_changed_places(self):
        self.is_wrong(is_command, ("commit", 3, 1, 2, 4, PATH, 5))
        self.is_wrong(is_command, ("commit", 3, PATH, 1, 2, 4, 5))
        self.is_wrong(is_command, ("do", ("list", ()), 1, 2))
        self.is_wrong(is_command, ("intend", 5, 1))
        self.is_right(is_command, ("intend", 1, 5))

    def test_bounds_of_a_commit(self):
        for ticket, client, number, at, size in itertools.product((0, 1), (0, 1, 4, 5), (0, 1), (-1, 0), (0, 1, 64, 65)):
            right = ticket and client in (1, 4) and number and at == 0 and size in (1, 64)
            check = self.is_right if right else self.is_wrong
            check(is_command, ("commit", ticket, client, number, PATH, at, size))


class ArgumentsTest(unittest.TestCase):

    def test_they_stay_as_they_are(self):
        values = OPERATIONS + COMMANDS + [list(COMMANDS[2]), ("make", ["a"]), ["do", 1, 2, [OPERATIONS[0]]], [1], {1: 2}]
        kept = copy.deepcopy(values)
        for value in values:
            is_operation(value)
            is_command(value)
        self.assertEqual(values, kept)


if __name__ == "__main__":
    unittest.main()
