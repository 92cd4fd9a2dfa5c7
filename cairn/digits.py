"""Numbers as octets, the most significant one first."""

BASE = 256


def digits_of(number, width):
    """The last `width` base-256 digits of a number that is not negative."""
    digits = []
    rest = number
    for _ in range(width):
        digits.append(rest % BASE)
        rest = rest // BASE
    return digits[::-1]


def digit_count(number):
    """How many base-256 digits the number has, which is none for 0."""
    return (number.bit_length() + 7) // 8


def number_of(digits):
    """The number with these base-256 digits."""
    number = 0
    for digit in digits:
        number = number * BASE + digit
    return number
