"""Part 3: sealed sectors (3.1, 3.5 to 3.7)."""

import itertools
import unittest

from cairn.seals import check_octet, newest_stamp, read_half, read_sector, seal, seal_half
from support import BLANK, half, random_octets, replaced, sector, seeded, torn

STAMPS = (1, 2, 255, 256, 65535, 65536, 16777215)
BLANK_HALF = (0,) * 16
NOTHING = (0, ())


class HalfTest(unittest.TestCase):

    def test_check_octet(self):
        self.assertEqual(check_octet([]), 0)
        self.assertEqual(check_octet([255]), 255)
        self.assertEqual(check_octet([255, 1]), 0)
        self.assertEqual(check_octet((255, 255, 3)), 1)
        self.assertEqual(check_octet([255] * 15), 255 * 15 % 256)

    def test_seal_half(self):
        rng = seeded(1)
        for stamp in STAMPS:
            data = random_octets(rng, 11)
            kept = list(data)
            for given in (data, tuple(data)):
                found = seal_half(stamp, given)
                self.assertIsInstance(found, tuple)
                self.assertEqual(found, half(stamp, data))
            self.assertEqual(data, kept)

    def test_a_half_octet_by_octet(self):
        self.assertEqual(
            seal_half(66051, range(11)),
            (197, 1, 2, 3, 0, 1, 2, 3, 4, 5, 6, 7, 8, 9, 10, (197 + 6 + 55) % 256),
        )

    def test_good(self):
        rng = seeded(2)
        for stamp in STAMPS:
            data = tuple(random_octets(rng, 11))
            self.assertEqual(read_half(half(stamp, data)), ("good", stamp, data))
        self.assertEqual(read_half(half(1, [0] * 11)), ("good", 1, (0,) * 11))

    def test_blank(self):
        self.assertEqual(read_half(BLANK_HALF), ("blank", *NOTHING))

    def test_rotten(self):
        for found in (
            half(0, [1] * 11), half(0, [0] * 11), (1,) * 16, (196, *half(1, [0] * 11)[1:15], 197),
            (197,) + (0,) * 14 + (197,), (0,) * 15 + (1,), (0, 0, 0, 1) + (0,) * 11 + (1,),
        ):
            self.assertEqual(read_half(found), ("rotten", *NOTHING))

    def test_every_replaced_octet(self):
        rng = seeded(3)
        for sealed in (half(1, [0] * 11), half(197, [197] * 11), half(16777215, random_octets(rng, 11)), BLANK_HALF):
            for index, by in itertools.product(range(16), range(1, 256)):
                self.assertEqual(read_half(replaced(sealed, index, by)), ("rotten", *NOTHING))


class SectorTest(unittest.TestCase):

    def test_seal(self):
        rng = seeded(4)
        for stamp in STAMPS:
            for length in (0, 1, 10, 11, 12, 21, 22):
                data = random_octets(rng, length)
                kept = list(data)
                for given in (data, tuple(data)):
                    found = seal(stamp, given)
                    self.assertIsInstance(found, tuple)
                    self.assertEqual(found, sector(stamp, data))
                self.assertEqual(data, kept)

    def test_good(self):
        data = tuple(range(1, 23))
        for stamp in STAMPS:
            self.assertEqual(read_sector(sector(stamp, data)), ("good", stamp, data))

    def test_blank(self):
        self.assertEqual(read_sector(BLANK), ("blank", *NOTHING))

    def test_all_kinds_of_two_halves(self):
        one, same, other = half(5, [1] * 11), half(5, [2] * 11), half(6, [2] * 11)
        rotten = replaced(one, 7)
        for first, second, kind in (
            (one, other, "torn"), (other, one, "torn"), (one, BLANK_HALF, "torn"), (BLANK_HALF, one, "torn"),
            (rotten, one, "rotten"), (one, rotten, "rotten"), (rotten, rotten, "rotten"),
            (rotten, BLANK_HALF, "rotten"), (BLANK_HALF, rotten, "rotten"), (rotten, other, "rotten"),
        ):
            self.assertEqual(read_sector(first + second), (kind, *NOTHING))
        self.assertEqual(read_sector(one + same), ("good", 5, (1,) * 11 + (2,) * 11))

    def test_every_replaced_octet(self):
        for whole in (sector(3, [9] * 22), BLANK, torn(sector(4, [1]), sector(3, [1])), torn(sector(4, [1]), BLANK)):
            for index, by in itertools.product(range(32), (1, 128, 255)):
                self.assertEqual(read_sector(replaced(whole, index, by))[0], "rotten")

    def test_torn_writes_in_both_directions(self):
        old, new = sector(3, [1] * 22), sector(4, [1] * 22)
        for under, over in ((old, new), (new, old), (BLANK, new)):
            self.assertEqual(read_sector(torn(over, under)), ("torn", *NOTHING))
        # Not even the data can make up for another stamp, nor can a blank second half.
        self.assertEqual(read_sector(torn(sector(2, []), sector(1, []))), ("torn", *NOTHING))

    def test_stamps_are_compared_whole(self):
        for stamp in (1, 256, 65536):
            found = torn(sector(stamp, [7]), sector(stamp + 65536, [7]))
            self.assertEqual(read_sector(found)[0], "torn")


class NewestStampTest(unittest.TestCase):

    def test_nothing_good(self):
        self.assertEqual(newest_stamp([]), 0)
        self.assertEqual(newest_stamp([BLANK, BLANK]), 0)
        self.assertEqual(newest_stamp([replaced(half(9, [0] * 11), 5) + replaced(BLANK_HALF, 2)]), 0)

    def test_good_halves_of_any_sectors(self):
        one, two, nine = half(1, [0] * 11), half(2, [0] * 11), half(9, [0] * 11)
        for sectors, newest in (
            ([one + one, two + two], 2), ([two + two, one + one], 2), ([nine + one], 9), ([one + nine], 9),
            ([nine + BLANK_HALF, one + one], 9), ([BLANK_HALF + nine], 9),
            # The half beside a rotten one counts, the rotten one does not.
            ([nine + replaced(two, 4)], 9), ([replaced(nine, 4) + two], 2),
        ):
            kept = list(sectors)
            self.assertEqual(newest_stamp(sectors), newest)
            self.assertEqual(sectors, kept)
        self.assertEqual(newest_stamp([sector(16777215, [])]), 16777215)


if __name__ == "__main__":
    unittest.main()
