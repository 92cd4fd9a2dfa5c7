"""Matrices of octets."""

from cairn.errors import NoSolution, ShapeMismatch, Singular
from cairn.field import combined, inv, mixed, power, scaled


def identity(n):
    """The matrix with n rows and columns that changes nothing."""
    return [[1 if row == column else 0 for column in range(n)] for row in range(n)]


def mat_mul(a, b):
    """The product of two matrices."""
    if len(a[0]) != len(b):
        raise ShapeMismatch(f"{len(a[0])} columns meet {len(b)} rows")
    return [combined(row, b) for row in a]


def mat_vec(a, v):
    """The product of a matrix and a column."""
    if len(a[0]) != len(v):
        raise ShapeMismatch(f"{len(a[0])} columns meet a column of {len(v)} octets")
    column = [[octet] for octet in v]
    return [combined(row, column)[0] for row in a]


def reduced(a, width):
    """The rows of a, reduced in the first `width` columns, and the columns of the pivots.

    Row k has a 1 in the column of pivot k, and all other rows have 0 there. A column without a
    pivot is a sum of multiples of the columns before it.
    """
    rows = [list(row) for row in a]
    pivots = []
    for column in range(width):
        top = len(pivots)
        usable = [index for index in range(top, len(rows)) if rows[index][column]]
        if usable:
            rows[top], rows[usable[0]] = rows[usable[0]], rows[top]
            rows = cleared(rows, top, column)
            pivots.append(column)
    return rows, pivots


def cleared(rows, top, column):
    """The rows with a 1 in the row `top` of the column, and 0 in all other rows of it."""
    pivot = scaled(inv(rows[top][column]), rows[top])
    others = [mixed(row, row[column], pivot) if row[column] else row for row in rows]
    return others[:top] + [pivot] + others[top + 1:]


def rank(a):
    """The number of rows none of which is a sum of multiples of the others."""
    pivots = reduced(a, len(a[0]))[1]
    return len(pivots)


def inverse(a):
    """The matrix whose products with a are the identity."""
    size = len(a)
    if len(a[0]) != size:
        raise ShapeMismatch(f"a matrix of {size} rows and {len(a[0])} columns has no inverse")
    widened = [row + unit for row, unit in zip(a, identity(size))]
    rows, pivots = reduced(widened, size)
    if len(pivots) < size:
        raise Singular("the rows of the matrix depend on each other")
    return [row[size:] for row in rows]


def solve(a, v):
    """The list x with a times x equal to v that is 0 wherever x may be chosen."""
    if len(a) != len(v):
        raise ShapeMismatch(f"{len(a)} rows meet a column of {len(v)} octets")
    width = len(a[0])
    rows, pivots = reduced([row + [octet] for row, octet in zip(a, v)], width)
    if any(row[width] for row in rows[len(pivots):]):
        raise NoSolution("the equations contradict each other")
    result = [0] * width
    for row, column in zip(rows, pivots):
        result[column] = row[width]
    return result


def vandermonde(xs, width):
    """The matrix whose row for x consists of the powers of x."""
    return [[power(x, exponent) for exponent in range(width)] for x in xs]
