"""The erasure code: blocks, and the fragments that give them back."""

from cairn.errors import BadCode, BadIndex, NotEnough, UnequalBlocks
from cairn.field import add, combined, div, mixed, mul
from cairn.matrix import identity, inverse

MOST_DATA = 16
MOST_TOTAL = 24


class Code:
    """A code that turns `data` blocks into `total` fragments."""

    def __init__(self, data, total):
        if data < 1 or data > MOST_DATA or total < data or total > MOST_TOTAL:
            raise BadCode(f"there is no code with {data} blocks and {total} fragments")
        self.data = data
        self.total = total
        self._rows = factor_rows(data, total)

    def row(self, i):
        """The factors of the blocks in fragment i."""
        check_index(i, self.total)
        return list(self._rows[i])

    def word(self, blocks):
        """All fragments of the blocks."""
        self._check_blocks(blocks)
        return [self._fragment(blocks, i) for i in range(self.total)]

    def fragment(self, blocks, i):
        """Fragment i of the blocks."""
        self._check_blocks(blocks)
        check_index(i, self.total)
        return self._fragment(blocks, i)

    def rebuild(self, pieces):
        """The blocks that the pieces with the smallest indexes determine."""
        self._check_pieces(pieces)
        chosen = sorted(pieces)[:self.data]
        known = [pieces[i] for i in chosen]
        if chosen[-1] < self.data:
            return [list(piece) for piece in known]
        factors = inverse([self._rows[i] for i in chosen])
        return [combined(row, known) for row in factors]

    def restore(self, pieces, i):
        """Fragment i of the blocks that the pieces determine."""
        return self.fragment(self.rebuild(pieces), i)

    def consistent(self, pieces):
        """Whether all pieces are fragments of the same blocks."""
        blocks = self.rebuild(pieces)
        return all([self._fragment(blocks, i) == pieces[i] for i in pieces])

    def amend(self, i, fragment, j, old, new):
        """Fragment i after block j has changed from old to new."""
        check_index(i, self.total)
        check_index(j, self.data)
        check_lengths([fragment, old, new])
        change = [add(a, b) for a, b in zip(old, new)]
        return mixed(fragment, self._rows[i][j], change)

    def chunks(self, octets):
        """The octets cut into blocks, with zeros behind them."""
        length = max(1, (len(octets) + self.data - 1) // self.data)
        padded = list(octets) + [0] * (length * self.data - len(octets))
        return [padded[k * length:(k + 1) * length] for k in range(self.data)]

    def merge(self, blocks, size):
        """The first `size` octets of the blocks."""
        octets = [octet for block in blocks for octet in block]
        if len(octets) < size:
            raise NotEnough(f"{len(octets)} octets are here, {size} are needed")
        return octets[:size]

    def _fragment(self, blocks, i):
        if i < self.data:
            return list(blocks[i])
        return combined(self._rows[i], blocks)

    def _check_blocks(self, blocks):
        if len(blocks) != self.data:
            raise UnequalBlocks(f"{len(blocks)} blocks are here, {self.data} are needed")
        check_lengths(blocks)

    def _check_pieces(self, pieces):
        for i in pieces:
            check_index(i, self.total)
        if len(pieces) < self.data:
            raise NotEnough(f"{len(pieces)} pieces are here, {self.data} are needed")
        check_lengths(list(pieces.values()))


def factor_rows(data, total):
    """For each fragment the factors of the blocks in it.

    The factor of block j in fragment i is the value at i of the polynomial that is 1 at j and 0 at
    the other octets below `data`.
    """
    heights = [product_of([add(j, k) for k in range(data) if k != j]) for j in range(data)]
    rows = identity(data)
    for i in range(data, total):
        whole = product_of([add(i, k) for k in range(data)])
        rows.append([div(whole, mul(add(i, j), heights[j])) for j in range(data)])
    return rows


def product_of(octets):
    """The product of all octets of a list."""
    result = 1
    for octet in octets:
        result = mul(result, octet)
    return result


def check_index(i, bound):
    """Refuse an index that is not from 0 to bound - 1."""
    if i < 0 or i >= bound:
        raise BadIndex(f"{i} is not from 0 to {bound - 1}")


def check_lengths(lists):
    """Refuse lists that are empty or differ in length."""
    lengths = [len(octets) for octets in lists]
    if min(lengths) == 0 or min(lengths) != max(lengths):
        raise UnequalBlocks("blocks and fragments have one length, which is at least 1")
