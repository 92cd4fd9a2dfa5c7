"""Part 7: blobs and their fragments (7.4, 7.5)."""

import copy
import itertools
import unittest

from blobtools import CONFIGS, SMALL, octets_of_size, word_of
from cairn.blobs import fragments, holder, index_on, whole_blob
from cairn.config import Config
from cairn.errors import BadIndex, NotEnough, UnequalBlocks

TICKETS = (1, 2, 3, 5, 23, 24, 25, 255, 256, 60000, 16777214, 16777215)


class HolderTest(unittest.TestCase):

    def test_the_words_of_the_document(self):
        for shelves in range(1, 25):
            config = Config(1, shelves, 1, 0, 64)
            for ticket in TICKETS:
                for index in range(shelves):
                    shelf = "s" + str((ticket + index) % shelves)
                    self.assertEqual(holder(config, ticket, index), shelf)
                    self.assertEqual(index_on(config, ticket, shelf), index)

    def test_each_shelf_has_one_fragment(self):
        for shelves in range(1, 25):
            config = Config(1, shelves, 1, 0, 64)
            for ticket in TICKETS:
                shelves_used = [holder(config, ticket, index) for index in range(shelves)]
                self.assertEqual(sorted(shelves_used), sorted(config.shelf_names()))
                indexes = [index_on(config, ticket, shelf) for shelf in config.shelf_names()]
                self.assertEqual(sorted(indexes), list(range(shelves)))

    def test_examples(self):
        # 7.22 and 8.13.
        self.assertEqual([holder(SMALL, 5, index) for index in range(4)], ["s1", "s2", "s3", "s0"])
        self.assertEqual([index_on(SMALL, 5, shelf) for shelf in ("s0", "s1", "s2", "s3")], [3, 0, 1, 2])
        many = Config(1, 24, 16, 0, 64)
        self.assertEqual((holder(many, 1, 9), index_on(many, 1, "s10")), ("s10", 9))


class FragmentsTest(unittest.TestCase):

    def test_each_size(self):
        for config in CONFIGS:
            for size in range(1, 65):
                octets = octets_of_size(size)
                with self.subTest(shelves=config.shelves, data=config.data, size=size):
                    found = fragments(config, list(octets))
                    self.assertEqual(found, [list(fragment) for fragment in word_of(config, octets)])
                    length = -(-size // config.data)
                    self.assertEqual([len(fragment) for fragment in found], [length] * config.shelves)
                    # Fragment i is block i, for the blocks.
                    flat = [octet for fragment in found[:config.data] for octet in fragment]
                    self.assertEqual(flat, [*octets, *[0] * (length * config.data - size)])

    def test_the_example(self):
        # 7.22: the blocks are [5, 6] and [7, 0].
        found = fragments(SMALL, [5, 6, 7])
        self.assertEqual(found[:2], [[5, 6], [7, 0]])
        self.assertEqual(len(found), 4)

    def test_tuples(self):
        self.assertEqual(fragments(SMALL, (5, 6, 7)), fragments(SMALL, [5, 6, 7]))

    def test_the_code_of_all_shelves(self):
        # The example of 2.15: data 2, total 4.
        self.assertEqual(fragments(SMALL, [1, 0]), [[1], [0], [3], [2]])


class WholeBlobTest(unittest.TestCase):

    def test_any_fragments_in_any_order(self):
        for config in CONFIGS:
            for size in (1, 2, config.data, config.data + 1, 17, 63, 64):
                octets = octets_of_size(size)
                word = word_of(config, octets)
                for chosen in itertools.combinations(range(config.shelves), config.data):
                    pieces = {index: list(word[index]) for index in reversed(chosen)}
                    self.assertEqual(whole_blob(config, pieces, size), list(octets))

    def test_each_order_of_three(self):
        config = Config(3, 7, 3, 2, 64)
        octets = octets_of_size(20)
        word = word_of(config, octets)
        for chosen in itertools.permutations(range(7), 3):
            pieces = {index: word[index] for index in chosen}
            self.assertEqual(whole_blob(config, pieces, 20), list(octets))

    def test_further_ones_beside(self):
        for config in CONFIGS:
            octets = octets_of_size(11)
            word = word_of(config, octets)
            for count in range(config.data, config.shelves + 1):
                pieces = {index: word[index] for index in range(config.shelves - count, config.shelves)}
                found = whole_blob(config, pieces, 11)
                self.assertEqual(found, list(octets))
                self.assertIsInstance(found, list)

    def test_one_fragment_too_few(self):
        for config in CONFIGS:
            word = word_of(config, octets_of_size(9))
            pieces = {index: word[index] for index in range(config.data - 1)}
            with self.assertRaises(NotEnough):
                whole_blob(config, pieces, 9)

    def test_the_errors_of_rebuild_in_order(self):
        cases = [
            (BadIndex, {4: [1]}), (BadIndex, {-1: [1], 0: [1]}), (BadIndex, {0: [1], 1: [2, 3], 4: []}),
            (NotEnough, {}), (NotEnough, {0: []}), (NotEnough, {3: [1]}),
            (UnequalBlocks, {0: [1], 1: [2, 3]}), (UnequalBlocks, {0: [], 1: []}),
            (UnequalBlocks, {0: [1], 1: [2], 3: [4, 5]}),
        ]
        for error, pieces in cases:
            with self.subTest(pieces=pieces):
                with self.assertRaises(error):
                    whole_blob(SMALL, pieces, 1)


class PureTest(unittest.TestCase):

    def test_arguments_and_results(self):
        octets = [5, 6, 7]
        found = fragments(SMALL, octets)
        self.assertEqual(octets, [5, 6, 7])
        expected = copy.deepcopy(found)
        found[0][0] = 99
        found.append([])
        self.assertEqual(fragments(SMALL, octets), expected)
        pieces = {0: list(expected[0]), 1: list(expected[1]), 3: list(expected[3])}
        kept = copy.deepcopy(pieces)
        blob = whole_blob(SMALL, pieces, 3)
        blob[:] = [0]
        self.assertEqual(pieces, kept)
        self.assertEqual(whole_blob(SMALL, pieces, 3), octets)


if __name__ == "__main__":
    unittest.main()
