"""Part 3: plain data as octets (3.3, 3.4)."""

import unittest

from cairn.errors import Unreadable
from cairn.pack import pack, unpack
from support import seeded

# Values with their encodings.
ENCODED = [
    (0, [1, 0]),
    (1, [1, 1, 1]),
    (255, [1, 1, 255]),
    (256, [1, 2, 1, 0]),
    (65535, [1, 2, 255, 255]),
    (65536, [1, 3, 1, 0, 0]),
    (16777216, [1, 4, 1, 0, 0, 0]),
    (-1, [2, 1, 1]),
    (-255, [2, 1, 255]),
    (-256, [2, 2, 1, 0]),
    (-65537, [2, 3, 1, 0, 1]),
    (256 ** 255 - 1, [1, 255] + [255] * 255),
    (256 ** 254, [1, 255, 1] + [0] * 254),
    (-(256 ** 255 - 1), [2, 255] + [255] * 255),
    ("", [3, 0, 0]),
    ("a", [3, 0, 1, 97]),
    (" ~", [3, 0, 2, 32, 126]),
    ("$&", [3, 0, 2, 36, 38]),
    ("x" * 256, [3, 1, 0] + [120] * 256),
    ("y" * 65535, [3, 255, 255] + [121] * 65535),
    ((), [4, 0]),
    ((5,), [4, 1, 1, 1, 5]),
    (((),), [4, 1, 4, 0]),
    (("ab", -3, ()), [4, 3, 3, 0, 2, 97, 98, 2, 1, 3, 4, 0]),
    ((0,) * 255, [4, 255] + [1, 0] * 255),
]


def nested(depth, inner=()):
    """A tuple that is nested so deep."""
    value = inner
    for _ in range(depth - 1):
        value = (value,)
    return value


def random_value(rng, depth):
    kind = rng.randrange(4 if depth else 3)
    if kind == 0:
        return rng.randrange(-3, 4)
    if kind == 1:
        return rng.randrange(-256 ** 9, 256 ** 9)
    if kind == 2:
        return "".join(rng.choice("az09 ~/\\\"'{}") for _ in range(rng.randrange(6)))
    return tuple(random_value(rng, depth - 1) for _ in range(rng.randrange(4)))


class PackTest(unittest.TestCase):

    def test_encodings(self):
        for value, octets in ENCODED:
            found = pack(value)
            self.assertIsInstance(found, list)
            self.assertEqual(found, octets)

    def test_every_character(self):
        for code in range(32, 127):
            if code != 37:
                self.assertEqual(pack(chr(code)), [3, 0, 1, code])
                self.assertEqual(unpack([3, 0, 1, code]), chr(code))

    def test_unpack_reads_lists_and_tuples(self):
        for value, octets in ENCODED:
            kept = list(octets)
            for given in (octets, tuple(octets)):
                found = unpack(given)
                self.assertEqual(found, value)
                self.assertIs(type(found), type(value))
            self.assertEqual(octets, kept)

    def test_numbers_around_the_bounds_of_their_digits(self):
        for digits in (1, 2, 3, 10, 100, 254, 255):
            for number in (256 ** digits - 1, 256 ** (digits - 1), 256 ** (digits - 1) + 1):
                self.assertEqual(pack(number)[:2], [1, digits])
                for value in (number, -number):
                    self.assertEqual(unpack(pack(value)), value)

    def test_random_values(self):
        rng = seeded(1)
        for _ in range(1000):
            value = random_value(rng, 4)
            self.assertEqual(unpack(pack(value)), value)

    def test_depth(self):
        for depth in range(1, 9):
            self.assertEqual(unpack(pack(nested(depth))), nested(depth))
        self.assertEqual(unpack(pack(nested(8, (1, "a")))), nested(8, (1, "a")))
        for depth in (9, 10, 50):
            with self.assertRaises(Unreadable):
                unpack([4, 1] * (depth - 1) + [4, 0])
        with self.assertRaises(Unreadable):
            unpack(pack(nested(9)))
        with self.assertRaises(Unreadable):
            unpack(pack((1, nested(8))))
        self.assertEqual(unpack(pack((nested(7), nested(7), "a"))), (nested(7), nested(7), "a"))

    def test_results_are_new(self):
        found = pack((1, 2))
        found.append(9)
        self.assertEqual(pack((1, 2)), [4, 2, 1, 1, 1, 1, 1, 2])


class UnreadableTest(unittest.TestCase):

    def refuse(self, octets):
        for given in (list(octets), tuple(octets)):
            with self.assertRaises(Unreadable, msg=octets):
                unpack(given)
            self.assertEqual(list(given), list(octets))

    def test_no_octets(self):
        self.refuse([])

    def test_unknown_kinds(self):
        for kind in (0, 5, 6, 49, 128, 255):
            self.refuse([kind])
            self.refuse([kind, 0])
            self.refuse([4, 1, kind, 0])

    def test_leading_zeros(self):
        for octets in ([1, 1, 0], [1, 2, 0, 5], [2, 1, 0], [2, 2, 0, 5], [1, 3, 0, 0, 0], [4, 1, 1, 1, 0]):
            self.refuse(octets)

    def test_negative_zero(self):
        self.refuse([2, 0])
        self.refuse([4, 1, 2, 0])

    def test_each_encoding_without_its_end(self):
        for _, octets in ENCODED:
            for end in range(min(len(octets), 600)):
                self.refuse(octets[:end])
            self.refuse(octets[:-1])

    def test_octets_left_over(self):
        for _, octets in ENCODED:
            for more in ([0], [1], [1, 0], [4, 0]):
                self.refuse(octets + more)

    def test_wrong_lengths(self):
        for octets in (
            [3, 0, 2, 97], [3, 0, 0, 97], [3, 1, 0, 97], [3, 0], [3], [4], [4, 2, 1, 0], [4, 0, 1, 0],
            [1, 2, 1], [1, 1, 1, 1], [4, 255],
        ):
            self.refuse(octets)

    def test_characters_outside_of_the_set(self):
        for code in [*range(32), 37, *range(127, 256)]:
            self.refuse([3, 0, 1, code])
            self.refuse([3, 0, 3, 97, code, 98])

    def test_each_value_has_one_encoding(self):
        rng = seeded(2)
        readable = 0
        for _ in range(20000):
            octets = [rng.choice((0, 1, 1, 2, 3, 4, 4, 97)) for _ in range(rng.randrange(1, 8))]
            try:
                value = unpack(octets)
            except Unreadable:
                continue
            readable += 1
            self.assertEqual(pack(value), octets)
        self.assertGreater(readable, 200)


if __name__ == "__main__":
    unittest.main()
