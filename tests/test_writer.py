"""Part 7: the writer (7.6)."""

import itertools
import unittest

from blobtools import CONFIGS, SMALL, octets_of_size, shelf_of, word_of
from cairn.writer import Writer


def puts(config, ticket, octets, indexes):
    """The letters for the fragments with these indexes."""
    word = word_of(config, octets)
    return [(shelf_of(config, ticket, index), ("put", ticket, index, word[index])) for index in indexes]


def keep(writer, config, index):
    writer.kept(shelf_of(config, writer.ticket, index), writer.ticket, index)


class WriterTest(unittest.TestCase):

    def test_the_attribute(self):
        self.assertEqual(Writer(SMALL, 5, [1, 2]).ticket, 5)

    def test_the_example(self):
        # 7.22.
        writer = Writer(SMALL, 5, (5, 6, 7))
        letters = writer.letters()
        self.assertEqual([shelf for shelf, _ in letters], ["s1", "s2", "s3", "s0"])
        self.assertEqual(letters[0], ("s1", ("put", 5, 0, (5, 6))))
        self.assertEqual(letters[1], ("s2", ("put", 5, 1, (7, 0))))
        self.assertEqual(letters, puts(SMALL, 5, (5, 6, 7), range(4)))

    def test_letters_before_and_behind_each_acknowledgement(self):
        for config in CONFIGS:
            for ticket in (1, 7, 16777215):
                octets = octets_of_size(13)
                writer = Writer(config, ticket, list(octets))
                left = list(range(config.shelves))
                for index in reversed(range(0, config.shelves, 2)):
                    self.assertEqual(writer.letters(), puts(config, ticket, octets, left))
                    keep(writer, config, index)
                    left.remove(index)
                self.assertEqual(writer.letters(), puts(config, ticket, octets, left))

    def test_safe_and_full_at_their_bounds(self):
        for config in CONFIGS:
            writer = Writer(config, 9, [1, 2, 3])
            for count in range(config.shelves):
                self.assertIs(writer.safe(), count >= config.data + config.spare)
                self.assertIs(writer.full(), False)
                keep(writer, config, config.shelves - 1 - count)
            self.assertIs(writer.safe(), True)
            self.assertIs(writer.full(), True)
            self.assertEqual(writer.letters(), [])

    def test_any_three_of_four_are_safe(self):
        for chosen in itertools.permutations(range(4), 3):
            writer = Writer(SMALL, 6, [1])
            for index in chosen[:2]:
                keep(writer, SMALL, index)
            self.assertIs(writer.safe(), False)
            keep(writer, SMALL, chosen[2])
            self.assertIs(writer.safe(), True)
            self.assertIs(writer.full(), False)

    def test_acknowledgements_that_do_not_count(self):
        writer = Writer(SMALL, 5, [1, 2, 3])
        keep(writer, SMALL, 0)
        before = writer.letters()
        strange = [
            # Another ticket, for which the sender would be the holder.
            ("s1", 6, 3), ("s1", 9, 0), ("s2", 9, 1), ("s2", 4, 2),
            # An index of no fragment, for which the numbers would fit.
            ("s1", 5, 4), ("s0", 5, -1), ("s2", 5, 5), ("s3", 5, -2), ("s2", 5, 1001),
            # Senders that are not the holder.
            ("s1", 5, 1), ("s0", 5, 2), ("s3", 5, 3), ("s2", 5, 2), ("k2", 5, 1), ("p0", 5, 1), ("s4", 5, 3),
            ("s", 5, 1), ("", 5, 1), ("s22", 5, 1), ("2", 5, 1),
        ]
        for sender, ticket, index in strange:
            with self.subTest(sender=sender, ticket=ticket, index=index):
                writer.kept(sender, ticket, index)
                self.assertEqual(writer.letters(), before)
                self.assertIs(writer.safe(), False)

    def test_twice_counts_once(self):
        writer = Writer(SMALL, 5, [1, 2, 3])
        for _ in range(5):
            keep(writer, SMALL, 1)
            keep(writer, SMALL, 2)
        self.assertIs(writer.safe(), False)
        self.assertEqual(writer.letters(), puts(SMALL, 5, (1, 2, 3), (0, 3)))

    def test_each_size(self):
        for size in range(1, 65):
            octets = octets_of_size(size)
            self.assertEqual(Writer(SMALL, 8, octets).letters(), puts(SMALL, 8, octets, range(4)))

    def test_arguments_and_results(self):
        octets = [5, 6, 7]
        writer = Writer(SMALL, 5, octets)
        self.assertEqual(octets, [5, 6, 7])
        octets[0] = 99
        writer.letters().clear()
        self.assertEqual(writer.letters(), puts(SMALL, 5, (5, 6, 7), range(4)))
        for _, letter in writer.letters():
            self.assertIsInstance(letter, tuple)
            self.assertIsInstance(letter[3], tuple)
        self.assertIsNone(writer.kept("s1", 5, 0))


if __name__ == "__main__":
    unittest.main()
