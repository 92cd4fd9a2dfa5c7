"""Finding wrong fragments among pieces."""

from cairn.errors import TooManyErrors
from cairn.field import degree, evaluate, interpolate, poly_add, poly_divmod, poly_mul


def correct(code, pieces):
    """The blocks that most pieces agree on, and the indexes of the pieces that are wrong."""
    blocks = code.rebuild(pieces)
    indexes = sorted(pieces)
    # Where all pieces agree with the first ones, these are right, and nothing is looked for.
    places = contradictions(code, pieces, blocks)
    for place in places:
        points = [(i, pieces[i][place]) for i in indexes]
        nearest = nearest_polynomial(points, code.data)
        for j in range(code.data):
            blocks[j][place] = evaluate(nearest, j)
    wrong = [i for i in indexes if code.fragment(blocks, i) != pieces[i]]
    return blocks, wrong


def damaged(code, pieces):
    """The indexes of the wrong pieces, or None if too many are wrong."""
    try:
        return correct(code, pieces)[1]
    except TooManyErrors:
        return None


def contradictions(code, pieces, blocks):
    """The places at which some piece is not the fragment of the blocks, in ascending order."""
    found = {}
    for i in pieces:
        expected = code.fragment(blocks, i)
        for place in range(len(expected)):
            if expected[place] != pieces[i][place]:
                found[place] = True
    return sorted(found)


def nearest_polynomial(points, width):
    """The polynomial of degree less than `width` that misses as few of the points as is allowed."""
    allowed = (len(points) - width) // 2
    found = candidate(points, width)
    missed = [x for x, y in points if evaluate(found, x) != y]
    if degree(found) >= width or len(missed) > allowed:
        raise TooManyErrors(f"more than {allowed} pieces are wrong at one place")
    return found


def candidate(points, width):
    """The polynomial that nearest_polynomial looks for, if there is one.

    Let P be that polynomial, E one that is zero at the x of each wrong point, V one that is zero
    at the x of all points, and G one through all points. E times G and E times P are equal at all
    x, so they differ by a multiple of V. Euclid's algorithm for V and G goes through pairs of a
    factor and a rest that differ so from the factor times G. The first rest whose degree is as
    small as that of E times P must be belongs to E, but that both are multiplied by one octet.
    """
    before, rest = vanishing(points), interpolate(points)
    factor_before, factor = [], [1]
    while 2 * degree(rest) >= len(points) + width:
        quotient, next_rest = poly_divmod(before, rest)
        next_factor = poly_add(factor_before, poly_mul(quotient, factor))
        before, rest = rest, next_rest
        factor_before, factor = factor, next_factor
    return poly_divmod(rest, factor)[0]


def vanishing(points):
    """The polynomial that is zero at the x of each point."""
    result = [1]
    for x, _ in points:
        result = poly_mul(result, [x, 1])
    return result
