"""Part 1: matrices (1.8 to 1.14)."""

import copy
import itertools
import unittest

from cairn.errors import NoSolution, ShapeMismatch, Singular
from cairn.field import mul, power
from cairn.matrix import identity, inverse, mat_mul, mat_vec, rank, solve, vandermonde
from support import random_octets, seeded


def random_matrix(rng, rows, columns):
    return [random_octets(rng, columns) for _ in range(rows)]


def zeros(rows, columns):
    return [[0] * columns for _ in range(rows)]


def product(a, b):
    """The product, cell by cell."""
    result = zeros(len(a), len(b[0]))
    for i, k, j in itertools.product(range(len(a)), range(len(b)), range(len(b[0]))):
        result[i][j] ^= mul(a[i][k], b[k][j])
    return result


def of_rank(rng, rows, columns, wanted):
    """A matrix of the wanted rank: no row of the upper triangle is a sum of multiples of others."""
    left = [[0] * k + [1] + random_octets(rng, wanted - k - 1) for k in range(wanted)]
    left += random_matrix(rng, rows - wanted, wanted)
    right = [[0] * k + [1] + random_octets(rng, columns - k - 1) for k in range(wanted)]
    return product(left, right)


class ProductTest(unittest.TestCase):

    def test_identity(self):
        for n in (1, 2, 3, 40):
            self.assertEqual(identity(n), [[int(i == j) for j in range(n)] for i in range(n)])
        found = identity(2)
        found[0][1] = 7
        self.assertEqual(identity(2), [[1, 0], [0, 1]])

    def test_mat_mul(self):
        rng = seeded(1)
        for rows, middle, columns in (
            (1, 1, 1), (1, 3, 1), (3, 1, 3), (1, 3, 2), (2, 3, 1), (4, 5, 6), (40, 40, 40), (40, 1, 40),
        ):
            a, b = random_matrix(rng, rows, middle), random_matrix(rng, middle, columns)
            kept = copy.deepcopy((a, b))
            self.assertEqual(mat_mul(a, b), product(a, b))
            self.assertEqual((a, b), kept)
        self.assertEqual(mat_mul(zeros(2, 3), zeros(3, 4)), zeros(2, 4))

    def test_mat_mul_is_new(self):
        a, b = identity(2), [[1, 2], [3, 4]]
        found = mat_mul(a, b)
        found[0][0] = 9
        found = mat_mul(b, a)
        found[1][1] = 9
        self.assertEqual((a, b), (identity(2), [[1, 2], [3, 4]]))

    def test_mat_mul_of_other_shapes(self):
        for a, b in (
            (zeros(2, 3), zeros(2, 3)), (zeros(1, 1), zeros(2, 1)), (zeros(1, 2), zeros(1, 2)),
            (zeros(40, 40), zeros(39, 40)),
        ):
            with self.assertRaises(ShapeMismatch):
                mat_mul(a, b)

    def test_mat_vec(self):
        rng = seeded(2)
        for rows, columns in ((1, 1), (1, 5), (5, 1), (3, 4), (40, 40)):
            a, v = random_matrix(rng, rows, columns), random_octets(rng, columns)
            kept = copy.deepcopy((a, v))
            self.assertEqual(mat_vec(a, v), [row[0] for row in product(a, [[x] for x in v])])
            self.assertEqual((a, v), kept)

    def test_mat_vec_of_another_length(self):
        for a, v in ((zeros(2, 3), [0, 0]), (zeros(2, 3), [0] * 4), (zeros(1, 1), [])):
            with self.assertRaises(ShapeMismatch):
                mat_vec(a, v)


class RankTest(unittest.TestCase):

    def test_rank(self):
        rng = seeded(3)
        for rows, columns in ((1, 1), (1, 6), (6, 1), (4, 7), (7, 4), (40, 40)):
            for wanted in range(0, min(rows, columns) + 1, 1 if rows < 40 else 13):
                a = of_rank(rng, rows, columns, wanted) if wanted else zeros(rows, columns)
                rng.shuffle(a)
                kept = copy.deepcopy(a)
                self.assertEqual(rank(a), wanted)
                self.assertEqual(a, kept)

    def test_rank_of_zeros(self):
        for rows, columns in ((1, 1), (1, 40), (40, 1), (40, 40)):
            self.assertEqual(rank(zeros(rows, columns)), 0)

    def test_a_row_that_is_a_sum_of_multiples(self):
        self.assertEqual(rank([[1, 2, 3], [4, 5, 6], [5, 7, 5]]), 2)
        self.assertEqual(rank([[1, 2], [2, 4]]), 1)
        self.assertEqual(rank([[0, 0, 5], [0, 3, 0]]), 2)


class InverseTest(unittest.TestCase):

    def test_inverse(self):
        rng = seeded(4)
        for size in (1, 2, 3, 10, 40):
            a = of_rank(rng, size, size, size)
            kept = copy.deepcopy(a)
            b = inverse(a)
            self.assertEqual(a, kept)
            self.assertEqual(product(a, b), identity(size))
            self.assertEqual(product(b, a), identity(size))

    def test_rows_that_must_change_places(self):
        a = [[0, 0, 2], [3, 0, 0], [0, 4, 0]]
        self.assertEqual(product(a, inverse(a)), identity(3))
        self.assertEqual(inverse([[0, 1], [1, 0]]), [[0, 1], [1, 0]])

    def test_inverse_is_new(self):
        a = identity(2)
        inverse(a)[0][0] = 5
        self.assertEqual(a, identity(2))

    def test_singular(self):
        rng = seeded(5)
        for a in ([[0]], zeros(40, 40), [[1, 2], [2, 4]], of_rank(rng, 40, 40, 39), of_rank(rng, 5, 5, 2)):
            kept = copy.deepcopy(a)
            with self.assertRaises(Singular):
                inverse(a)
            self.assertEqual(a, kept)

    def test_not_square(self):
        for a in (zeros(1, 2), zeros(2, 1), zeros(40, 39), [[1, 0, 0], [0, 1, 0]]):
            with self.assertRaises(ShapeMismatch):
                inverse(a)

    def test_examples(self):
        self.assertEqual(inverse([[1, 1], [1, 2]]), [[245, 244], [244, 244]])


class SolveTest(unittest.TestCase):

    def check(self, a, v):
        kept = copy.deepcopy((a, v))
        x = solve(a, v)
        self.assertEqual((a, v), kept)
        self.assertEqual(mat_vec(a, x), v)
        # A column is a sum of multiples of those before it if it does not add to the rank.
        ranks = [0] + [rank([row[:width] for row in a]) for width in range(1, len(a[0]) + 1)]
        for j, value in enumerate(x):
            if ranks[j] == ranks[j + 1]:
                self.assertEqual(value, 0)

    def test_solve(self):
        rng = seeded(6)
        for rows, columns in ((1, 1), (1, 5), (5, 1), (3, 6), (6, 3), (5, 5), (40, 40)):
            for wanted in range(1, min(rows, columns) + 1, 1 if rows < 40 else 13):
                a = of_rank(rng, rows, columns, wanted)
                rng.shuffle(a)
                self.check(a, mat_vec(a, random_octets(rng, columns)))

    def test_columns_that_depend_on_earlier_ones(self):
        rng = seeded(7)
        for _ in range(50):
            a = random_matrix(rng, 3, 2)
            a = [[0, row[0], mul(row[0], 9), row[1], row[0] ^ row[1], 0] for row in a]
            self.check(a, mat_vec(a, random_octets(rng, 6)))

    def test_zeros(self):
        self.assertEqual(solve(zeros(2, 3), [0, 0]), [0, 0, 0])
        self.assertEqual(solve(zeros(40, 40), [0] * 40), [0] * 40)

    def test_no_solution(self):
        for a, v in (
            ([[0]], [1]), (zeros(2, 2), [0, 1]), ([[1, 1], [1, 1]], [1, 2]), ([[1], [2]], [1, 1]),
            ([[1, 2], [3, 4], [2, 6]], [1, 1, 1]),
        ):
            kept = copy.deepcopy((a, v))
            with self.assertRaises(NoSolution):
                solve(a, v)
            self.assertEqual((a, v), kept)

    def test_another_length(self):
        for a, v in (([[1, 2]], []), ([[1, 2]], [1, 2]), (zeros(2, 3), [1, 1, 1]), (zeros(1, 1), [1, 1])):
            with self.assertRaises(ShapeMismatch):
                solve(a, v)

    def test_examples(self):
        self.assertEqual(solve([[1, 1]], [7]), [7, 0])


class VandermondeTest(unittest.TestCase):

    def test_rows_are_powers(self):
        rng = seeded(8)
        for count, width in ((1, 1), (1, 40), (40, 1), (40, 40), (3, 5)):
            xs = rng.sample(range(256), count)
            kept = list(xs)
            self.assertEqual(vandermonde(xs, width), [[power(x, k) for k in range(width)] for x in xs])
            self.assertEqual(xs, kept)

    def test_zero_and_equal_octets(self):
        self.assertEqual(vandermonde([0, 0, 3], 3), [[1, 0, 0], [1, 0, 0], [1, 3, 5]])

    def test_any_rows_are_invertible(self):
        rows = vandermonde([0, 1, 2, 3, 100, 255], 3)
        for chosen in itertools.combinations(rows, 3):
            self.assertEqual(rank(list(chosen)), 3)
        self.assertEqual(rank(vandermonde(list(range(40)), 40)), 40)


if __name__ == "__main__":
    unittest.main()
