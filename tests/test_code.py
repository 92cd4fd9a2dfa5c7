"""Part 2: the code (2.1 to 2.11, 2.15)."""

import copy
import itertools
import unittest

from cairn.code import Code
from cairn.errors import BadCode, BadIndex, NotEnough, UnequalBlocks
from cairn.field import evaluate, interpolate, mul
from support import random_octets, seeded

# (data, total)
SHAPES = ((1, 1), (1, 2), (1, 24), (2, 2), (2, 4), (3, 7), (5, 6), (16, 16), (16, 24), (8, 24))


def random_blocks(rng, data, length):
    return [random_octets(rng, length) for _ in range(data)]


def word_of(blocks, total):
    """The word by the words of 2.2: the values of a polynomial at each place."""
    columns = []
    for octets in zip(*blocks):
        p = interpolate(list(enumerate(octets)))
        columns.append([evaluate(p, i) for i in range(total)])
    return [list(fragment) for fragment in zip(*columns)]


class CodeTest(unittest.TestCase):

    def test_ranges(self):
        for data in range(-1, 19):
            for total in range(-1, 27):
                if 1 <= data <= 16 and data <= total <= 24:
                    code = Code(data, total)
                    self.assertEqual((code.data, code.total), (data, total))
                else:
                    with self.assertRaises(BadCode):
                        Code(data, total)

    def test_word(self):
        rng = seeded(1)
        for data, total in SHAPES:
            for length in (1, 2, 5) if data < 16 else (1, 512):
                blocks = random_blocks(rng, data, length)
                kept = copy.deepcopy(blocks)
                word = Code(data, total).word(blocks)
                self.assertEqual(word, word_of(blocks, total))
                self.assertEqual(word[:data], blocks)
                word[0][0] ^= 1
                word[-1][0] ^= 1
                self.assertEqual(blocks, kept)

    def test_blocks_of_zeros(self):
        self.assertEqual(Code(3, 6).word([[0, 0]] * 3), [[0, 0]] * 6)

    def test_fragment(self):
        rng = seeded(2)
        for data, total in SHAPES:
            code = Code(data, total)
            blocks = random_blocks(rng, data, 3)
            kept = copy.deepcopy(blocks)
            word = word_of(blocks, total)
            for i in range(total):
                found = code.fragment(blocks, i)
                self.assertEqual(found, word[i])
                found[0] ^= 1
                self.assertEqual(blocks, kept)

    def test_row(self):
        rng = seeded(3)
        for data, total in SHAPES:
            code = Code(data, total)
            octets = random_octets(rng, data)
            word = word_of([[octet] for octet in octets], total)
            for i in range(total):
                row = code.row(i)
                self.assertEqual(len(row), data)
                value = 0
                for factor, octet in zip(row, octets):
                    value ^= mul(factor, octet)
                self.assertEqual([value], word[i])

    def test_row_is_new(self):
        code = Code(2, 4)
        for i in range(4):
            kept = code.row(i)
            code.row(i)[0] ^= 1
            self.assertEqual(code.row(i), kept)

    def test_indexes(self):
        code = Code(2, 4)
        for i in (-1, 4, 5, -4):
            with self.assertRaises(BadIndex):
                code.row(i)
            with self.assertRaises(BadIndex):
                code.fragment([[1], [2]], i)

    def test_unequal_blocks(self):
        code = Code(2, 4)
        for blocks in ([], [[1]], [[1], [2], [3]], [[], []], [[1], []], [[], [1]], [[1, 2], [1]]):
            kept = copy.deepcopy(blocks)
            with self.assertRaises(UnequalBlocks):
                code.word(blocks)
            # The index is checked last.
            for i in (0, 3, 4, -1):
                with self.assertRaises(UnequalBlocks):
                    code.fragment(blocks, i)
            self.assertEqual(blocks, kept)

    def test_examples(self):
        code = Code(2, 4)
        self.assertEqual(code.word([[1], [0]]), [[1], [0], [3], [2]])
        self.assertEqual(code.row(2), [3, 2])
        self.assertEqual(code.rebuild({3: [2], 1: [0]}), [[1], [0]])
        self.assertEqual(code.amend(2, [3], 1, [0], [5]), [9])
        self.assertEqual(code.chunks([9, 8, 7]), [[9, 8], [7, 0]])


class RebuildTest(unittest.TestCase):

    def test_any_pieces_give_the_blocks(self):
        rng = seeded(4)
        for data, total in ((1, 1), (1, 3), (2, 2), (2, 5), (3, 6), (4, 6)):
            code = Code(data, total)
            blocks = random_blocks(rng, data, 2)
            word = code.word(blocks)
            for count in range(data, total + 1):
                for chosen in itertools.permutations(range(total), count):
                    self.assertEqual(code.rebuild({i: word[i] for i in chosen}), blocks)

    def test_the_largest_code(self):
        rng = seeded(5)
        for length in (1, 512):
            code = Code(16, 24)
            blocks = random_blocks(rng, 16, length)
            word = code.word(blocks)
            for _ in range(5):
                chosen = rng.sample(range(24), 16)
                self.assertEqual(code.rebuild({i: word[i] for i in chosen}), blocks)

    def test_only_the_smallest_indexes_count(self):
        code = Code(2, 5)
        word = code.word([[1, 2], [3, 4]])
        pieces = {4: [9, 9], 1: word[1], 3: [8, 8], 2: word[2]}
        self.assertEqual(code.rebuild(pieces), [[1, 2], [3, 4]])

    def test_arguments_stay_and_results_are_new(self):
        code = Code(2, 4)
        for chosen in ((0, 1), (0, 2), (2, 3)):
            word = code.word([[1, 2], [3, 4]])
            pieces = {i: word[i] for i in chosen}
            kept = copy.deepcopy(pieces)
            for found in (code.rebuild(pieces), [code.restore(pieces, i) for i in range(4)]):
                for octets in found:
                    octets[0] ^= 1
                self.assertEqual(pieces, kept)

    def refuse(self, pieces, error):
        code = Code(2, 4)
        kept = copy.deepcopy(pieces)
        for call in (
            lambda: code.rebuild(pieces), lambda: code.consistent(pieces),
            lambda: code.restore(pieces, 0), lambda: code.restore(pieces, 4),
        ):
            with self.assertRaises(error):
                call()
        self.assertEqual(pieces, kept)

    def test_wrong_indexes(self):
        for pieces in (
            {0: [1], 4: [1]}, {-1: [1], 0: [1]}, {0: [1], 1: [1], 4: [1]},
            # With fewer pieces, and with unequal ones, too.
            {4: [1]}, {-1: []}, {0: [1], 1: [1, 2], 9: []},
        ):
            self.refuse(pieces, BadIndex)

    def test_too_few_pieces(self):
        for pieces in ({}, {0: [1]}, {3: [1]}, {0: []}):
            self.refuse(pieces, NotEnough)

    def test_unequal_pieces(self):
        for pieces in (
            {0: [], 1: []}, {0: [1], 1: []}, {0: [1], 1: [1, 2]},
            # The length of a piece that is not needed counts.
            {0: [1], 1: [1], 2: [1, 2]}, {0: [1], 1: [1], 3: []},
        ):
            self.refuse(pieces, UnequalBlocks)

    def test_restore(self):
        rng = seeded(6)
        for data, total in SHAPES:
            code = Code(data, total)
            word = code.word(random_blocks(rng, data, 2))
            pieces = {i: word[i] for i in rng.sample(range(total), data)}
            for i in range(total):
                self.assertEqual(code.restore(pieces, i), word[i])
            for i in (-1, total):
                with self.assertRaises(BadIndex):
                    code.restore(pieces, i)

    def test_consistent(self):
        rng = seeded(7)
        for data, total in SHAPES:
            code = Code(data, total)
            word = code.word(random_blocks(rng, data, 3))
            for count in range(data, total + 1):
                pieces = {i: list(word[i]) for i in rng.sample(range(total), count)}
                kept = copy.deepcopy(pieces)
                self.assertIs(code.consistent(pieces), True)
                self.assertEqual(pieces, kept)
                pieces[max(pieces)][2] ^= 4
                self.assertIs(code.consistent(pieces), count == data)

    def test_consistent_with_each_wrong_piece(self):
        code = Code(2, 5)
        for i in range(5):
            pieces = dict(enumerate(code.word([[1, 2], [3, 4]])))
            pieces[i][1] ^= 1
            self.assertIs(code.consistent(pieces), False)


class AmendTest(unittest.TestCase):

    def test_amend(self):
        rng = seeded(8)
        for data, total in SHAPES:
            code = Code(data, total)
            blocks = random_blocks(rng, data, 3)
            word = code.word(blocks)
            for j in range(data):
                changed = list(blocks)
                changed[j] = random_octets(rng, 3)
                expected = code.word(changed)
                for i in range(total):
                    given = [list(word[i]), list(blocks[j]), list(changed[j])]
                    kept = copy.deepcopy(given)
                    found = code.amend(i, given[0], j, given[1], given[2])
                    self.assertEqual(found, expected[i])
                    found[0] ^= 1
                    self.assertEqual(given, kept)

    def test_wrong_indexes(self):
        code = Code(2, 4)
        for i, j in ((-1, 0), (4, 0), (0, -1), (0, 2), (2, 3), (4, 2)):
            for octets in ([1], []):
                with self.assertRaises(BadIndex):
                    code.amend(i, octets, j, [1], [1])

    def test_unequal_lists(self):
        code = Code(2, 4)
        for fragment, old, new in (
            ([], [], []), ([1], [1], []), ([1], [], [1]), ([], [1], [1]),
            ([1, 2], [1], [1]), ([1], [1, 2], [1]), ([1], [1], [1, 2]),
        ):
            # A block that does not count for the fragment is checked, too.
            for i, j in ((2, 1), (0, 1)):
                with self.assertRaises(UnequalBlocks):
                    code.amend(i, fragment, j, old, new)


class ChunksTest(unittest.TestCase):

    def test_chunks_and_merge(self):
        rng = seeded(9)
        for data in range(1, 17):
            code = Code(data, 24)
            for size in (0, 1, 2, data - 1, data, data + 1, 31, 100, 4095, 4096):
                octets = random_octets(rng, size)
                kept = list(octets)
                blocks = code.chunks(octets)
                self.assertEqual(octets, kept)
                length = max(1, -(-size // data))
                padded = octets + [0] * (length * data - size)
                self.assertEqual(blocks, [padded[k * length:][:length] for k in range(data)])
                kept = copy.deepcopy(blocks)
                self.assertEqual(code.merge(blocks, size), octets)
                self.assertEqual(blocks, kept)

    def test_blocks_of_no_octets(self):
        self.assertEqual(Code(3, 3).chunks([]), [[0], [0], [0]])
        self.assertEqual(Code(1, 1).chunks([]), [[0]])

    def test_missing_octets_are_zeros(self):
        self.assertEqual(Code(4, 4).chunks([1, 2, 3, 4, 5]), [[1, 2], [3, 4], [5, 0], [0, 0]])

    def test_results_are_new(self):
        code, octets = Code(1, 1), [1, 2]
        blocks = code.chunks(octets)
        blocks[0][0] = 9
        self.assertEqual(octets, [1, 2])
        code.merge(blocks, 2)[0] = 5
        self.assertEqual(blocks, [[9, 2]])

    def test_merge(self):
        code = Code(2, 2)
        for size in range(5):
            self.assertEqual(code.merge([[1, 2], [3, 4]], size), [1, 2, 3, 4][:size])

    def test_merge_of_too_few_octets(self):
        code = Code(2, 2)
        for blocks, size in (([[1, 2], [3, 4]], 5), ([[1], [2]], 4096), ([[0], [0]], 3)):
            kept = copy.deepcopy(blocks)
            with self.assertRaises(NotEnough):
                code.merge(blocks, size)
            self.assertEqual(blocks, kept)


class DistanceTest(unittest.TestCase):

    def test_different_words_differ_in_many_fragments(self):
        rng = seeded(10)
        for data, total in SHAPES:
            code = Code(data, total)
            for _ in range(10):
                one = random_blocks(rng, data, 2)
                other = copy.deepcopy(one)
                for j in rng.sample(range(data), rng.randrange(1, data + 1)):
                    other[j][0] ^= rng.randrange(1, 256)
                differing = sum(a != b for a, b in zip(code.word(one), code.word(other)))
                self.assertGreaterEqual(differing, total - data + 1)

    def test_words_that_agree_as_often_as_they_can(self):
        for data, total in SHAPES:
            code = Code(data, total)
            # The polynomial that is 0 at all of the first octets but one.
            one = code.word([[0]] * data)
            other = code.word([[0]] * (data - 1) + [[1]])
            self.assertEqual(sum(a != b for a, b in zip(one, other)), total - data + 1)


if __name__ == "__main__":
    unittest.main()
