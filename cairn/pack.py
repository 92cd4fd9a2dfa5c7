"""Plain values as octets."""

from cairn.digits import digit_count, digits_of, number_of
from cairn.errors import Unreadable

NUMBER = 1
NEGATIVE = 2
STRING = 3
TUPLE = 4
DEEPEST = 8
PERCENT = 37

# The characters in the order of their codes. The percent sign is refused before this is read,
# and a space stands in its place.
FIRST_CODE = 32
CHARACTERS = (
    " !\"#$ &'()*+,-./0123456789:;<=>?@ABCDEFGHIJKLMNOPQRSTUVWXYZ[\\]^_`abcdefghijklmnopqrstuvwxyz{|}~"
)


def pack(value):
    """The encoding of a plain value, a list of octets."""
    if isinstance(value, str):
        return [STRING] + digits_of(len(value), 2) + [ord(character) for character in value]
    if isinstance(value, tuple):
        octets = [TUPLE, len(value)]
        for item in value:
            octets.extend(pack(item))
        return octets
    count = digit_count(abs(value))
    return [NEGATIVE if value < 0 else NUMBER, count] + digits_of(abs(value), count)


def unpack(octets):
    """The plain value that has this encoding."""
    value, end = read_value(octets, 0, 1)
    if end < len(octets):
        raise Unreadable("octets are left over")
    return value


def read_value(octets, at, depth):
    """The value whose encoding begins at the index `at`, and the index behind it."""
    kind = taken(octets, at, 1)[0]
    if kind == NUMBER or kind == NEGATIVE:
        return read_number(octets, at + 1, kind == NEGATIVE)
    if kind == STRING:
        return read_string(octets, at + 1)
    if kind == TUPLE:
        return read_tuple(octets, at + 1, depth)
    raise Unreadable(f"no value begins with the octet {kind}")


def read_number(octets, at, negative):
    """The number whose count of digits stands at the index, and the index behind it."""
    count = taken(octets, at, 1)[0]
    end = at + 1 + count
    number = number_of(taken(octets, at + 1, count))
    if digit_count(number) != count:
        raise Unreadable("the first digit is 0")
    if negative and number == 0:
        raise Unreadable("0 is not negative")
    return (-number if negative else number), end


def read_string(octets, at):
    """The string whose length stands at the index, and the index behind it."""
    length = number_of(taken(octets, at, 2))
    codes = taken(octets, at + 2, length)
    return "".join([character_of(code) for code in codes]), at + 2 + length


def read_tuple(octets, at, depth):
    """The tuple whose length stands at the index, and the index behind it."""
    if depth > DEEPEST:
        raise Unreadable(f"tuples are nested more than {DEEPEST} deep")
    end = at + 1
    items = []
    for _ in range(taken(octets, at, 1)[0]):
        item, end = read_value(octets, end, depth + 1)
        items.append(item)
    return tuple(items), end


def character_of(code):
    """The character with this code."""
    if code < FIRST_CODE or code >= FIRST_CODE + len(CHARACTERS) or code == PERCENT:
        raise Unreadable(f"no character has the code {code}")
    return CHARACTERS[code - FIRST_CODE]


def taken(octets, at, count):
    """The next `count` octets."""
    if at + count > len(octets):
        raise Unreadable("octets are missing")
    return octets[at:at + count]
