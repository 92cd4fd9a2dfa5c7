"""Part 1: octets and polynomials (1.1 to 1.7, 1.14)."""

import unittest

from cairn.errors import DuplicatePoint, ZeroElement
from cairn.field import (
    add, degree, div, evaluate, inv, interpolate, mul, poly_add, poly_divmod, poly_mul, power, trim,
)
from support import random_octets, seeded


def product(a, b):
    """The product by the words of 1.1: multiply, then reduce."""
    whole = 0
    for bit in range(8):
        if b >> bit & 1:
            whole ^= a << bit
    for bit in reversed(range(8, 16)):
        if whole >> bit & 1:
            whole ^= 285 << bit - 8
    return whole


def value_at(p, x):
    """The value of a polynomial, power by power."""
    total, factor = 0, 1
    for coefficient in p:
        total ^= product(coefficient, factor)
        factor = product(factor, x)
    return total


def without_zeros(p):
    while p and p[-1] == 0:
        p = p[:-1]
    return p


class OctetTest(unittest.TestCase):

    def test_sum_and_product_of_all_pairs(self):
        for a in range(256):
            for b in range(256):
                self.assertEqual(add(a, b), a ^ b)
                self.assertEqual(mul(a, b), product(a, b))

    def test_inverse_of_each_octet(self):
        for a in range(1, 256):
            self.assertEqual(product(a, inv(a)), 1)

    def test_quotient_of_all_pairs(self):
        for a in range(256):
            for b in range(1, 256):
                self.assertEqual(product(div(a, b), b), a)

    def test_zero_has_no_inverse(self):
        with self.assertRaises(ZeroElement):
            inv(0)

    def test_zero_divides_nothing(self):
        for a in (0, 1, 255):
            with self.assertRaises(ZeroElement):
                div(a, 0)

    def test_powers(self):
        for a in (0, 1, 2, 3, 29, 142, 255):
            expected = 1
            for n in range(1001):
                self.assertEqual(power(a, n), expected)
                expected = product(expected, a)

    def test_edges_of_power_for_each_octet(self):
        for a in range(256):
            self.assertEqual(power(a, 0), 1)
            self.assertEqual(power(a, 1), a)
            # The 255th power of each octet but 0 is 1.
            self.assertEqual(power(a, 1000), power(a, 1000 % 255) if a else 0)

    def test_examples(self):
        self.assertEqual(mul(2, 128), 29)
        self.assertEqual(mul(3, 7), 9)
        self.assertEqual(inv(2), 142)
        self.assertEqual(power(2, 255), 1)


class PolynomialTest(unittest.TestCase):

    def setUp(self):
        rng = seeded(1)
        self.some = [[], [0], [0, 0, 0], [1], [5, 0], [0, 7], [0, 0, 9, 0, 0]]
        for length in (1, 2, 3, 5, 8, 63, 64):
            self.some.append(random_octets(rng, length))
            self.some.append(random_octets(rng, length - 1) + [0])

    def test_trim(self):
        for p in self.some:
            kept = list(p)
            found = trim(p)
            self.assertEqual(found, without_zeros(p))
            self.assertEqual(p, kept)
            found.append(1)
            self.assertEqual(p, kept)

    def test_degree(self):
        self.assertEqual(degree([]), -1)
        self.assertEqual(degree([0]), -1)
        self.assertEqual(degree([0] * 64), -1)
        self.assertEqual(degree([4]), 0)
        self.assertEqual(degree([0, 0, 4, 0]), 2)
        self.assertEqual(degree([1] * 64), 63)

    def test_evaluate(self):
        for p in self.some:
            kept = list(p)
            for x in (0, 1, 2, 77, 255):
                self.assertEqual(evaluate(p, x), value_at(p, x))
            self.assertEqual(p, kept)
        self.assertEqual(evaluate([], 3), 0)
        self.assertEqual(evaluate([9, 8], 0), 9)

    def test_sum_and_product(self):
        for p in self.some:
            for q in self.some:
                kept = list(p), list(q)
                total, whole = poly_add(p, q), poly_mul(p, q)
                self.assertEqual((p, q), kept)
                self.assertEqual(total, without_zeros(total))
                self.assertEqual(whole, without_zeros(whole))
                for x in (0, 1, 2, 130, 255):
                    self.assertEqual(value_at(total, x), value_at(p, x) ^ value_at(q, x))
                    self.assertEqual(value_at(whole, x), product(value_at(p, x), value_at(q, x)))

    def test_sum_and_product_coefficient_by_coefficient(self):
        self.assertEqual(poly_add([1, 2, 3], [4, 5]), [5, 7, 3])
        self.assertEqual(poly_add([1, 2, 3], [1, 5, 3]), [0, 7])
        self.assertEqual(poly_add([1, 2], [1, 2, 0]), [])
        self.assertEqual(poly_mul([1, 1], [1, 1]), [1, 0, 1])
        self.assertEqual(poly_mul([2, 0, 0], [0, 3, 0]), [0, 6])
        self.assertEqual(poly_mul([1, 2], []), [])
        self.assertEqual(poly_mul([], []), [])
        self.assertEqual(poly_mul([0, 0], [1, 2]), [])
        self.assertEqual(len(poly_mul([1] * 64, [1] * 64)), 127)

    def test_results_are_new(self):
        for p in ([1, 2], [], [3, 0]):
            for q in ([], [0], [1]):
                for found in (poly_add(p, q), poly_add(q, p), poly_mul(p, q), poly_mul(q, p)):
                    kept = list(p), list(q)
                    found.append(9)
                    self.assertEqual((p, q), kept)

    def test_divmod(self):
        for p in self.some:
            for q in self.some:
                if degree(q) == -1:
                    continue
                kept = list(p), list(q)
                quotient, rest = poly_divmod(p, q)
                self.assertEqual((p, q), kept)
                self.assertEqual(quotient, without_zeros(quotient))
                self.assertEqual(rest, without_zeros(rest))
                self.assertLess(len(rest), len(without_zeros(q)))
                self.assertEqual(poly_add(poly_mul(quotient, q), rest), without_zeros(p))

    def test_divmod_gives_a_tuple_of_new_lists(self):
        p, q = [1, 2], [1, 1, 1]
        found = poly_divmod(p, q)
        self.assertIsInstance(found, tuple)
        self.assertEqual(found, ([], [1, 2]))
        found[1].append(3)
        self.assertEqual(p, [1, 2])

    def test_divmod_by_a_polynomial_without_degree(self):
        for q in ([], [0], [0, 0, 0]):
            for p in ([], [0], [1, 2]):
                with self.assertRaises(ZeroElement):
                    poly_divmod(p, q)

    def test_examples(self):
        self.assertEqual(poly_divmod([1, 0, 1], [1, 1]), ([1, 1], []))


class InterpolateTest(unittest.TestCase):

    def test_passes_through_all_points(self):
        rng = seeded(2)
        for count in (1, 2, 3, 7, 24, 63, 64):
            xs = rng.sample(range(256), count)
            points = [(x, rng.randrange(256)) for x in xs]
            kept = list(points)
            found = interpolate(points)
            self.assertEqual(points, kept)
            self.assertLessEqual(len(found), count)
            self.assertEqual(found, without_zeros(found))
            for x, y in points:
                self.assertEqual(value_at(found, x), y)

    def test_is_trimmed(self):
        rng = seeded(3)
        p = random_octets(rng, 4) + [1]
        points = [(x, value_at(p, x)) for x in rng.sample(range(256), 20)]
        self.assertEqual(interpolate(points), p)
        self.assertEqual(interpolate([(x, 0) for x in range(10)]), [])

    def test_no_point_and_one_point(self):
        self.assertEqual(interpolate([]), [])
        self.assertEqual(interpolate([(0, 0)]), [])
        self.assertEqual(interpolate([(9, 0)]), [])
        self.assertEqual(interpolate([(9, 7)]), [7])
        found = interpolate([])
        found.append(1)
        self.assertEqual(interpolate([]), [])

    def test_two_points_with_one_x(self):
        for points in (
            [(1, 2), (1, 2)], [(1, 2), (1, 3)], [(0, 0), (0, 0)], [(5, 1), (6, 1), (7, 1), (5, 1)],
            [(x % 63, x) for x in range(64)],
        ):
            kept = list(points)
            with self.assertRaises(DuplicatePoint):
                interpolate(points)
            self.assertEqual(points, kept)

    def test_examples(self):
        self.assertEqual(interpolate([(1, 5), (2, 5)]), [5])
        self.assertEqual(interpolate([(0, 1), (1, 0)]), [1, 1])


if __name__ == "__main__":
    unittest.main()
