"""Arguments stay as they are, and what is returned is new (0.3, 1.2), for functions without state."""

import copy
import unittest

from cairn import field, matrix, seals
from cairn.code import Code
from cairn.correct import correct, damaged
from cairn.errors import CairnError
from cairn.pack import pack, unpack
from support import BLANK, half, sector

CODE = Code(2, 5)
WORD = Code(2, 5).word([[1, 2], [3, 4]])
WRONG = {0: [1, 2], 1: [9, 9], 2: WORD[2], 3: WORD[3], 4: WORD[4]}
FEW = {0: [1, 2], 1: [9, 9], 2: WORD[2]}

# Calls that return something.
CALLS = [
    (field.trim, [1, 2, 0]), (field.trim, [1, 2]), (field.trim, []), (field.degree, [1, 0]),
    (field.evaluate, [1, 2, 0], 3), (field.poly_add, [1, 2], [3, 0]), (field.poly_add, [], [3]),
    (field.poly_mul, [1, 2], [3, 0]), (field.poly_mul, [1], [5, 6]), (field.poly_divmod, [1, 2, 3, 0], [1, 1, 0]),
    (field.poly_divmod, [1, 2], [1, 1, 1]), (field.interpolate, [(1, 2), (3, 4)]), (field.interpolate, []),
    (matrix.identity, 3), (matrix.mat_mul, [[1, 0], [0, 1]], [[5, 6], [7, 8]]),
    (matrix.mat_mul, [[5, 6], [7, 8]], [[1, 0], [0, 1]]), (matrix.mat_vec, [[1, 0], [0, 1]], [5, 6]),
    (matrix.rank, [[0, 2], [1, 2]]), (matrix.inverse, [[0, 2], [1, 2]]), (matrix.inverse, [[1]]),
    (matrix.solve, [[0, 2], [1, 2]], [3, 4]), (matrix.solve, [[1]], [4]), (matrix.vandermonde, [1, 2], 3),
    (CODE.row, 0), (CODE.row, 4), (CODE.word, [[1, 2], [3, 4]]), (CODE.fragment, [[1, 2], [3, 4]], 0),
    (CODE.fragment, [[1, 2], [3, 4]], 4), (CODE.rebuild, {0: [1, 2], 1: [3, 4]}),
    (CODE.rebuild, {4: [1, 2], 0: [3, 4]}), (CODE.restore, {0: [1, 2], 1: [3, 4]}, 0),
    (CODE.restore, {4: [1, 2], 0: [3, 4]}, 4), (CODE.consistent, WRONG), (CODE.amend, 0, [1], 0, [1], [2]),
    (CODE.amend, 0, [1], 1, [1], [2]), (CODE.amend, 4, [1], 1, [1], [2]), (CODE.chunks, [1, 2, 3]),
    (CODE.chunks, []), (CODE.merge, [[1, 2], [3, 4]], 3), (CODE.merge, [[1, 2], [3, 4]], 4),
    (correct, CODE, WRONG), (correct, CODE, dict(enumerate(WORD))), (damaged, CODE, WRONG), (damaged, CODE, FEW),
    (pack, (1, ("a", -2))), (unpack, [4, 1, 1, 0]), (seals.check_octet, [1, 2]), (seals.seal_half, 5, [1] * 11),
    (seals.read_half, half(5, [1] * 11)), (seals.seal, 5, [1, 2]), (seals.seal, 5, [1] * 22),
    (seals.read_sector, sector(5, [1])), (seals.newest_stamp, [BLANK, sector(5, [1])]),
]
# Calls that raise.
REFUSED = [
    (field.poly_divmod, [1, 2, 0], [0, 0]), (field.interpolate, [(1, 2), (3, 4), (1, 2)]),
    (matrix.mat_mul, [[1, 2]], [[1, 2]]), (matrix.mat_vec, [[1, 2]], [1]), (matrix.inverse, [[1, 2]]),
    (matrix.inverse, [[1, 2], [2, 4]]), (matrix.solve, [[1, 2]], [1, 2]), (matrix.solve, [[1], [1]], [1, 2]),
    (CODE.word, [[1, 2], [3]]), (CODE.fragment, [[1], [2]], 5), (CODE.rebuild, {0: [1], 1: [2, 3]}),
    (CODE.rebuild, {0: [1], 7: [2]}), (CODE.rebuild, {0: [1]}), (CODE.restore, {0: [1], 1: [2]}, 5),
    (CODE.consistent, {0: [1]}), (CODE.amend, 0, [1], 0, [1], []), (CODE.amend, 0, [1], 2, [1], [2]),
    (CODE.merge, [[1], [2]], 3), (correct, CODE, FEW), (correct, CODE, {0: [1]}), (damaged, CODE, {0: [1], 9: [2]}),
    (unpack, [4, 1, 1]),
]


def spoil(value):
    """Change all lists and dicts in what was returned."""
    if isinstance(value, (list, tuple)):
        for item in value:
            spoil(item)
    if isinstance(value, list):
        value[:] = [99] + value[1:] + [99]


class PureTest(unittest.TestCase):

    def same(self, arguments, kept):
        for argument, before in zip(arguments, kept):
            if not isinstance(argument, Code):
                self.assertEqual(argument, before)

    def test_results_are_new(self):
        for call, *arguments in CALLS:
            with self.subTest(call=call, arguments=arguments):
                kept = copy.deepcopy(arguments)
                found = call(*arguments)
                self.same(arguments, kept)
                expected = copy.deepcopy(found)
                spoil(found)
                self.same(arguments, kept)
                self.assertEqual(call(*arguments), expected)

    def test_calls_that_raise(self):
        for call, *arguments in REFUSED:
            with self.subTest(call=call, arguments=arguments):
                kept = copy.deepcopy(arguments)
                with self.assertRaises(CairnError):
                    call(*arguments)
                self.same(arguments, kept)

    def test_a_code_stays_as_it_is(self):
        code = Code(2, 5)
        for call in ("rebuild", "consistent"):
            getattr(code, call)({0: [1], 4: [2]})
        self.assertEqual((code.data, code.total), (2, 5))
        self.assertEqual((CODE.data, CODE.total), (2, 5))
        self.assertEqual([code.row(i) for i in range(5)], [CODE.row(i) for i in range(5)])


if __name__ == "__main__":
    unittest.main()
