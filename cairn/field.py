"""The field of octets, and polynomials over it."""

from cairn.errors import DuplicatePoint, ZeroElement

ORDER = 255

# Each octet but 0 is a power of 2, so that a product is found by adding two exponents.
# POWERS[k] is the k-th power of 2.
POWERS = (
    1, 2, 4, 8, 16, 32, 64, 128, 29, 58, 116, 232, 205, 135, 19, 38, 76, 152, 45, 90, 180, 117, 234,
    201, 143, 3, 6, 12, 24, 48, 96, 192, 157, 39, 78, 156, 37, 74, 148, 53, 106, 212, 181, 119, 238,
    193, 159, 35, 70, 140, 5, 10, 20, 40, 80, 160, 93, 186, 105, 210, 185, 111, 222, 161, 95, 190,
    97, 194, 153, 47, 94, 188, 101, 202, 137, 15, 30, 60, 120, 240, 253, 231, 211, 187, 107, 214,
    177, 127, 254, 225, 223, 163, 91, 182, 113, 226, 217, 175, 67, 134, 17, 34, 68, 136, 13, 26, 52,
    104, 208, 189, 103, 206, 129, 31, 62, 124, 248, 237, 199, 147, 59, 118, 236, 197, 151, 51, 102,
    204, 133, 23, 46, 92, 184, 109, 218, 169, 79, 158, 33, 66, 132, 21, 42, 84, 168, 77, 154, 41,
    82, 164, 85, 170, 73, 146, 57, 114, 228, 213, 183, 115, 230, 209, 191, 99, 198, 145, 63, 126,
    252, 229, 215, 179, 123, 246, 241, 255, 227, 219, 171, 75, 150, 49, 98, 196, 149, 55, 110, 220,
    165, 87, 174, 65, 130, 25, 50, 100, 200, 141, 7, 14, 28, 56, 112, 224, 221, 167, 83, 166, 81,
    162, 89, 178, 121, 242, 249, 239, 195, 155, 43, 86, 172, 69, 138, 9, 18, 36, 72, 144, 61, 122,
    244, 245, 247, 243, 251, 235, 203, 139, 11, 22, 44, 88, 176, 125, 250, 233, 207, 131, 27, 54,
    108, 216, 173, 71, 142,
)

# LOGS[a] is the exponent for the octet a. There is none for 0; its entry is not used.
LOGS = (
    0, 0, 1, 25, 2, 50, 26, 198, 3, 223, 51, 238, 27, 104, 199, 75, 4, 100, 224, 14, 52, 141, 239,
    129, 28, 193, 105, 248, 200, 8, 76, 113, 5, 138, 101, 47, 225, 36, 15, 33, 53, 147, 142, 218,
    240, 18, 130, 69, 29, 181, 194, 125, 106, 39, 249, 185, 201, 154, 9, 120, 77, 228, 114, 166, 6,
    191, 139, 98, 102, 221, 48, 253, 226, 152, 37, 179, 16, 145, 34, 136, 54, 208, 148, 206, 143,
    150, 219, 189, 241, 210, 19, 92, 131, 56, 70, 64, 30, 66, 182, 163, 195, 72, 126, 110, 107, 58,
    40, 84, 250, 133, 186, 61, 202, 94, 155, 159, 10, 21, 121, 43, 78, 212, 229, 172, 115, 243, 167,
    87, 7, 112, 192, 247, 140, 128, 99, 13, 103, 74, 222, 237, 49, 197, 254, 24, 227, 165, 153, 119,
    38, 184, 180, 124, 17, 68, 146, 217, 35, 32, 137, 46, 55, 63, 209, 91, 149, 188, 207, 205, 144,
    135, 151, 178, 220, 252, 190, 97, 242, 86, 211, 171, 20, 42, 93, 158, 132, 60, 57, 83, 71, 109,
    65, 162, 31, 45, 67, 216, 183, 123, 164, 118, 196, 23, 73, 236, 127, 12, 111, 246, 108, 161, 59,
    82, 41, 157, 85, 170, 251, 96, 134, 177, 187, 204, 62, 90, 203, 89, 95, 176, 156, 169, 160, 81,
    11, 245, 22, 235, 122, 117, 44, 215, 79, 174, 213, 233, 230, 231, 173, 232, 116, 214, 244, 234,
    168, 80, 88, 175,
)


def add(a, b):
    """The sum of two octets, which is also their difference."""
    return a ^ b


def mul(a, b):
    """The product of two octets."""
    if a == 0 or b == 0:
        return 0
    return POWERS[(LOGS[a] + LOGS[b]) % ORDER]


def inv(a):
    """The inverse of an octet."""
    if a == 0:
        raise ZeroElement("0 has no inverse")
    return POWERS[(ORDER - LOGS[a]) % ORDER]


def div(a, b):
    """The product of a and the inverse of b."""
    return mul(a, inv(b))


def power(a, n):
    """The product of n factors a."""
    if n == 0:
        return 1
    if a == 0:
        return 0
    return POWERS[(LOGS[a] * n) % ORDER]


def scaled(a, octets):
    """The product of the octet a and each octet of a list."""
    if a == 0:
        return [0] * len(octets)
    shift = LOGS[a]
    return [POWERS[(shift + LOGS[b]) % ORDER] if b else 0 for b in octets]


def mixed(octets, factor, others):
    """The sum of a list of octets and the multiple of another one of the same length."""
    return [a ^ b for a, b in zip(octets, scaled(factor, others))]


def combined(factors, rows):
    """The sum of the rows, which are lists of the same length, each multiplied by its factor."""
    result = [0] * len(rows[0])
    for factor, row in zip(factors, rows):
        if factor:
            result = mixed(result, factor, row)
    return result


def trim(p):
    """The polynomial without the zeros at its end."""
    return list(p[:degree(p) + 1])


def degree(p):
    """The greatest index of a coefficient other than 0, or -1."""
    index = len(p) - 1
    while index >= 0 and p[index] == 0:
        index -= 1
    return index


def evaluate(p, x):
    """The value of the polynomial at x."""
    value = 0
    for coefficient in reversed(p):
        value = add(mul(value, x), coefficient)
    return value


def poly_add(p, q):
    """The sum of two polynomials."""
    width = max(len(p), len(q))
    padded_p = list(p) + [0] * (width - len(p))
    padded_q = list(q) + [0] * (width - len(q))
    return trim([add(a, b) for a, b in zip(padded_p, padded_q)])


def poly_mul(p, q):
    """The product of two polynomials."""
    width = len(q)
    result = [0] * (len(p) + width)
    for shift, factor in enumerate(p):
        result[shift:shift + width] = mixed(result[shift:shift + width], factor, q)
    return trim(result)


def poly_divmod(p, q):
    """The quotient of two polynomials and the rest."""
    divisor = trim(q)
    if not divisor:
        raise ZeroElement("a polynomial of degree -1 divides nothing")
    rest = trim(p)
    width = len(divisor)
    steps = max(0, len(rest) - width + 1)
    quotient = [0] * steps
    for shift in reversed(range(steps)):
        factor = div(rest[shift + width - 1], divisor[width - 1])
        quotient[shift] = factor
        rest[shift:shift + width] = mixed(rest[shift:shift + width], factor, divisor)
    return trim(quotient), trim(rest)


def interpolate(points):
    """The polynomial of least degree that has the value y at x for each point (x, y)."""
    result = []
    # This product is zero at each x that was taken, so adding a multiple of it disturbs none.
    vanishing = [1]
    for x, y in points:
        slope = evaluate(vanishing, x)
        if slope == 0:
            raise DuplicatePoint(f"two points have the x {x}")
        factor = div(add(y, evaluate(result, x)), slope)
        result = poly_add(result, scaled(factor, vanishing))
        vanishing = poly_mul(vanishing, [x, 1])
    return result
