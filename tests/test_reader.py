"""Part 7: the reader (7.7, 7.8)."""

import itertools
import unittest

from blobtools import CONFIGS, SMALL, octets_of_size, pieces_of, shelf_of, word_of
from cairn.config import Config
from cairn.reader import Reader
from cairn.writer import Writer

FIVE = (5, 6, 7)
EIGHT = tuple(range(100, 109))


def gets(ticket, *shelves):
    return [(shelf, ("get", ticket)) for shelf in shelves]


def hear(reader, config, ticket, octets, *indexes):
    """Pass the fragments with these indexes to a reader."""
    pieces = pieces_of(config, ticket, octets)
    for index in indexes:
        reader.piece(*pieces[index])


ALL = ("s0", "s1", "s2", "s3")


class LettersTest(unittest.TestCase):

    def test_one_blob(self):
        reader = Reader(SMALL, ((5, 0, 3),), {5: 3})
        self.assertEqual(reader.letters(), gets(5, *ALL))
        self.assertIsNone(reader.result())
        # Index 3 lies on s0.
        hear(reader, SMALL, 5, FIVE, 3)
        self.assertEqual(reader.letters(), gets(5, "s1", "s2", "s3"))
        self.assertIsNone(reader.result())
        hear(reader, SMALL, 5, FIVE, 1)
        self.assertEqual(reader.letters(), [])
        self.assertEqual(reader.result(), FIVE)
        hear(reader, SMALL, 5, FIVE, 0)
        self.assertEqual(reader.letters(), [])
        self.assertEqual(reader.result(), FIVE)

    def test_several_blobs_in_ascending_order(self):
        reader = Reader(SMALL, ((8, 2, 4), (0, 0, 2), (5, 0, 3)), {5: 3, 8: 9, 7: 2})
        self.assertEqual(reader.letters(), gets(5, *ALL) + gets(8, *ALL))
        hear(reader, SMALL, 8, EIGHT, 0)
        # Index 0 of ticket 8 lies on s0.
        self.assertEqual(reader.letters(), gets(5, *ALL) + gets(8, "s1", "s2", "s3"))
        hear(reader, SMALL, 5, FIVE, 0, 2)
        self.assertEqual(reader.letters(), gets(8, "s1", "s2", "s3"))
        self.assertIsNone(reader.result())
        hear(reader, SMALL, 8, EIGHT, 3)
        self.assertEqual(reader.letters(), [])
        self.assertEqual(reader.result(), EIGHT[2:6] + (0, 0) + FIVE)

    def test_the_same_blob_twice(self):
        reader = Reader(SMALL, ((8, 4, 3), (8, 0, 2), (0, 0, 1), (8, 8, 1)), {8: 9})
        self.assertEqual(reader.letters(), gets(8, *ALL))
        hear(reader, SMALL, 8, EIGHT, 1, 2)
        self.assertEqual(reader.result(), (104, 105, 106, 100, 101, 0, 108))

    def test_zeros_alone_and_nothing_at_all(self):
        for extents, octets in (((), ()), (((0, 0, 4),), (0, 0, 0, 0))):
            reader = Reader(SMALL, extents, {5: 3})
            self.assertEqual(reader.letters(), [])
            self.assertEqual(reader.result(), octets)
            self.assertIsInstance(reader.result(), tuple)
            hear(reader, SMALL, 5, FIVE, 0)
            self.assertEqual(reader.result(), octets)

    def test_shelves_in_the_order_of_their_numbers(self):
        config = Config(1, 12, 3, 2, 64)
        reader = Reader(config, ((5, 0, 3),), {5: 3})
        self.assertEqual(reader.letters(), gets(5, *config.shelf_names()))


class PieceTest(unittest.TestCase):

    def unchanged(self, reader, *piece):
        before = (reader.letters(), reader.result())
        with self.subTest(piece=piece):
            self.assertIsNone(reader.piece(*piece))
            self.assertEqual((reader.letters(), reader.result()), before)

    def test_pieces_that_do_not_count(self):
        reader = Reader(SMALL, ((5, 0, 3),), {5: 3, 9: 3})
        word = word_of(SMALL, FIVE)
        hear(reader, SMALL, 5, FIVE, 0)
        # Tickets that are not needed, for which the sender is the holder.
        self.unchanged(reader, "s2", 9, 1, word[1])
        self.unchanged(reader, "s2", 6, 0, word[1])
        self.unchanged(reader, "s1", 0, 1, word[1])
        # Indexes of no fragment, for which the numbers would fit.
        self.unchanged(reader, "s2", 5, 5, word[1])
        self.unchanged(reader, "s0", 5, -1, word[3])
        self.unchanged(reader, "s1", 5, 4, word[0])
        # Senders that are not the holder.
        for sender in ("s0", "s1", "s3", "s4", "k2", "p0", "2", "", "s22"):
            self.unchanged(reader, sender, 5, 1, word[1])
        # Other lengths.
        for octets in ((), (7,), (7, 0, 0), (7, 0, 0, 0)):
            self.unchanged(reader, "s2", 5, 1, octets)
        hear(reader, SMALL, 5, FIVE, 1)
        self.assertEqual(reader.result(), FIVE)

    def test_lengths(self):
        for size in range(1, 65):
            octets = octets_of_size(size)
            for config in CONFIGS[:8]:
                reader = Reader(config, ((3, 0, size),), {3: size})
                length = -(-size // config.data)
                for wrong in (length - 1, length + 1):
                    reader.piece(shelf_of(config, 3, 0), 3, 0, (1,) * wrong)
                hear(reader, config, 3, octets, *range(config.data))
                self.assertEqual(reader.result(), octets)

    def test_the_first_of_one_index_stands(self):
        reader = Reader(SMALL, ((5, 0, 3),), {5: 3})
        reader.piece("s1", 5, 0, (5, 6))
        reader.piece("s1", 5, 0, (50, 60))
        reader.piece("s1", 5, 0, (5, 6))
        self.assertEqual(reader.letters(), gets(5, "s0", "s2", "s3"))
        self.assertIsNone(reader.result())
        reader.piece("s2", 5, 1, (7, 0))
        reader.piece("s2", 5, 1, (70, 0))
        self.assertEqual(reader.result(), FIVE)
        other = Reader(SMALL, ((5, 0, 3),), {5: 3})
        other.piece("s1", 5, 0, (50, 60))
        other.piece("s1", 5, 0, (5, 6))
        other.piece("s2", 5, 1, (7, 0))
        self.assertEqual(other.result(), (50, 60, 7))

    def test_lists_count_too(self):
        reader = Reader(SMALL, ((5, 0, 3),), {5: 3})
        octets = [5, 6]
        reader.piece("s1", 5, 0, octets)
        octets[:] = [9, 9]
        reader.piece("s2", 5, 1, [7, 0])
        self.assertEqual(reader.result(), FIVE)


class ArgumentsTest(unittest.TestCase):

    def test_arguments_and_results(self):
        sizes = {5: 3, 8: 9}
        extents = ((5, 1, 2),)
        reader = Reader(SMALL, extents, sizes)
        self.assertEqual(sizes, {5: 3, 8: 9})
        sizes[5] = 50
        reader.letters().clear()
        self.assertEqual(reader.letters(), gets(5, *ALL))
        hear(reader, SMALL, 5, FIVE, 2, 3)
        self.assertEqual(reader.result(), (6, 7))
        self.assertEqual(extents, ((5, 1, 2),))


class SpareTest(unittest.TestCase):
    """Point 7.8."""

    def test_any_spare_of_the_acknowledged_shelves_have_lost_it(self):
        for config in CONFIGS:
            octets = octets_of_size(21)
            writer = Writer(config, 4, octets)
            held = {}
            puts = writer.letters()
            # The least that is safe: the last shelves never heard of the blob.
            for shelf, (_, ticket, index, fragment) in puts[:config.data + config.spare]:
                held[shelf] = (ticket, index, fragment)
                writer.kept(shelf, ticket, index)
            self.assertIs(writer.safe(), True)
            for lost in itertools.combinations(sorted(held), config.spare):
                reader = Reader(config, ((4, 0, 21),), {4: 21})
                for shelf, (_, ticket) in reader.letters():
                    if shelf in held and shelf not in lost:
                        reader.piece(shelf, *held[shelf])
                self.assertEqual(reader.result(), octets)

    def test_one_more_is_too_many(self):
        reader = Reader(SMALL, ((4, 0, 21),), {4: 21})
        hear(reader, SMALL, 4, octets_of_size(21), 3)
        self.assertIsNone(reader.result())


if __name__ == "__main__":
    unittest.main()
