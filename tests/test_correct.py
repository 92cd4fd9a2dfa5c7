"""Part 2: wrong fragments among pieces (2.11 to 2.15)."""

import copy
import itertools
import unittest

from cairn.code import Code
from cairn.correct import correct, damaged
from cairn.errors import BadIndex, NotEnough, TooManyErrors, UnequalBlocks
from cairn.field import evaluate, interpolate
from support import random_octets, seeded


def nearest(points, data, allowed):
    """The polynomial that misses no more points than allowed, by trying every set of points."""
    for chosen in itertools.combinations(points, data):
        p = interpolate(list(chosen))
        if sum(evaluate(p, x) != y for x, y in points) <= allowed:
            return p
    return None


def expected(code, pieces):
    """What correct returns by the words of 2.12, or None if it raises TooManyErrors."""
    indexes = sorted(pieces)
    blocks = [[] for _ in range(code.data)]
    for place in range(len(pieces[indexes[0]])):
        points = [(i, pieces[i][place]) for i in indexes]
        p = nearest(points, code.data, (len(points) - code.data) // 2)
        if p is None:
            return None
        for j, block in enumerate(blocks):
            block.append(evaluate(p, j))
    word = code.word(blocks)
    return blocks, [i for i in indexes if pieces[i] != word[i]]


def random_word(rng, code, length):
    blocks = [random_octets(rng, length) for _ in range(code.data)]
    return blocks, code.word(blocks)


def chosen_pieces(rng, word, count):
    """Some pieces of a word, in any order."""
    return {i: list(word[i]) for i in rng.sample(range(len(word)), count)}


class CorrectTest(unittest.TestCase):

    def check(self, code, pieces):
        kept = copy.deepcopy(pieces)
        wanted = expected(code, pieces)
        if wanted is None:
            with self.assertRaises(TooManyErrors):
                correct(code, pieces)
            self.assertIsNone(damaged(code, pieces))
        else:
            found = correct(code, pieces)
            self.assertIsInstance(found, tuple)
            self.assertEqual(found, wanted)
            self.assertEqual(damaged(code, pieces), wanted[1])
            for octets in [*found[0], found[1]]:
                octets.append(1)
            self.assertEqual(correct(code, pieces), wanted)
        self.assertEqual(pieces, kept)
        return wanted

    def test_no_wrong_piece(self):
        rng = seeded(1)
        for data, total in ((1, 1), (1, 5), (2, 2), (2, 6), (3, 8), (16, 16), (16, 24)):
            code = Code(data, total)
            blocks, word = random_word(rng, code, 3)
            for count in range(data, total + 1):
                pieces = chosen_pieces(rng, word, count)
                self.assertEqual(correct(code, pieces), (blocks, []))
                self.assertEqual(damaged(code, pieces), [])

    def test_as_many_wrong_pieces_as_are_allowed(self):
        rng = seeded(2)
        for data, total in ((1, 3), (1, 24), (2, 4), (2, 7), (3, 8), (8, 24), (16, 24), (15, 24)):
            code = Code(data, total)
            blocks, word = random_word(rng, code, 4)
            for count in range(data, total + 1):
                pieces = chosen_pieces(rng, word, count)
                wrong = sorted(rng.sample(sorted(pieces), (count - data) // 2))
                for i in wrong:
                    for place in range(4):
                        pieces[i][place] ^= rng.randrange(1, 256)
                kept = copy.deepcopy(pieces)
                self.assertEqual(correct(code, pieces), (blocks, wrong))
                self.assertEqual(damaged(code, pieces), wrong)
                self.assertEqual(pieces, kept)

    def test_different_wrong_pieces_at_different_places(self):
        rng = seeded(3)
        for data, total in ((1, 5), (2, 8), (3, 9), (8, 24), (16, 24)):
            code = Code(data, total)
            for count in (total, total - 1):
                blocks, word = random_word(rng, code, 20)
                pieces = chosen_pieces(rng, word, count)
                touched = set()
                for place in range(20):
                    allowed = (count - data) // 2
                    for i in rng.sample(sorted(pieces), rng.randrange(allowed + 1)):
                        pieces[i][place] ^= rng.randrange(1, 256)
                        touched.add(i)
                self.assertEqual(correct(code, pieces), (blocks, sorted(touched)))

    def test_each_piece_wrong_alone(self):
        code = Code(3, 6)
        blocks, word = random_word(seeded(4), code, 2)
        for i in range(6):
            for place in range(2):
                pieces = dict(enumerate(copy.deepcopy(word)))
                pieces[i][place] ^= 1
                self.assertEqual(self.check(code, pieces), (blocks, [i]))

    def test_any_pieces_of_small_codes(self):
        rng = seeded(5)
        refused = 0
        for _ in range(400):
            total = rng.randrange(1, 8)
            code = Code(rng.randrange(1, total + 1), total)
            _, word = random_word(rng, code, rng.randrange(1, 3))
            pieces = chosen_pieces(rng, word, rng.randrange(code.data, total + 1))
            for i in pieces:
                if rng.randrange(3) == 0:
                    # Small octets, so that other polynomials come near more often.
                    pieces[i][0] ^= rng.randrange(4)
            refused += self.check(code, pieces) is None
        self.assertGreater(refused, 50)

    def test_one_wrong_piece_more_than_allowed(self):
        rng = seeded(6)
        refused = 0
        for data, total in ((1, 2), (1, 6), (2, 3), (2, 5), (3, 7), (4, 8)):
            code = Code(data, total)
            for count in range(data + 1, total + 1):
                blocks, word = random_word(rng, code, 2)
                pieces = chosen_pieces(rng, word, count)
                for i in rng.sample(sorted(pieces), (count - data) // 2 + 1):
                    pieces[i][1] ^= rng.randrange(1, 256)
                wanted = self.check(code, pieces)
                self.assertNotEqual(wanted, (blocks, []))
                refused += wanted is None
        self.assertGreater(refused, 10)

    def test_pieces_that_agree_on_nothing(self):
        rng = seeded(9)
        refused = 0
        for data in (1, 2):
            for total in range(data + 1, 13):
                for _ in range(20):
                    refused += self.check(Code(data, total), {i: [rng.randrange(6)] for i in range(total)}) is None
        self.assertGreater(refused, 200)

    def test_one_place_with_too_many_is_enough(self):
        code = Code(2, 4)
        _, word = random_word(seeded(7), code, 5)
        for place in range(5):
            pieces = dict(enumerate(copy.deepcopy(word)))
            pieces[0][place] ^= 1
            pieces[3][place] ^= 77
            self.assertIsNone(expected(code, pieces))
            self.check(code, pieces)

    def test_as_many_pieces_as_data_are_never_wrong(self):
        code = Code(3, 6)
        pieces = {1: [200], 3: [3], 5: [77]}
        self.assertEqual(correct(code, pieces), (code.rebuild(pieces), []))

    def test_long_fragments(self):
        rng = seeded(8)
        code = Code(16, 24)
        blocks, word = random_word(rng, code, 512)
        pieces = dict(enumerate(word))
        for place in range(512):
            for i in rng.sample(range(24), 4):
                pieces[i][place] ^= rng.randrange(1, 256)
        self.assertEqual(correct(code, pieces), (blocks, list(range(24))))

    def refuse(self, pieces, error):
        code = Code(2, 5)
        kept = copy.deepcopy(pieces)
        for call in (correct, damaged):
            with self.assertRaises(error):
                call(code, pieces)
        self.assertEqual(pieces, kept)

    def test_errors_of_rebuild(self):
        self.refuse({5: [1]}, BadIndex)
        self.refuse({-1: [1], 0: [], 1: [2, 3]}, BadIndex)
        self.refuse({0: []}, NotEnough)
        self.refuse({}, NotEnough)
        self.refuse({0: [], 1: [], 2: []}, UnequalBlocks)
        # The errors of rebuild come first: the first place has too many errors.
        self.refuse({0: [1, 1], 1: [7, 1], 2: [3, 1], 3: [50]}, UnequalBlocks)
        self.refuse({0: [1], 1: [7], 2: [3], 5: [50]}, BadIndex)

    def test_examples(self):
        code = Code(2, 4)
        self.assertEqual(correct(code, {0: [1], 1: [7], 2: [3], 3: [2]}), ([[1], [0]], [1]))
        with self.assertRaises(TooManyErrors):
            correct(code, {0: [1], 1: [7], 2: [3]})
        self.assertEqual(damaged(code, {0: [1], 1: [7], 2: [3], 3: [2]}), [1])
        self.assertIsNone(damaged(code, {0: [1], 1: [7], 2: [3]}))


if __name__ == "__main__":
    unittest.main()
