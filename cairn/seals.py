"""Sealed sectors: what was written whole can be told from what was not."""

from cairn.digits import digits_of, number_of

MARK = 197
HALF = 16
HALF_DATA = 11
DATA = 22
BLANK = (0, 0, 0, 0, 0, 0, 0, 0, 0, 0, 0, 0, 0, 0, 0, 0, 0, 0, 0, 0, 0, 0, 0, 0, 0, 0, 0, 0, 0, 0, 0, 0)


def check_octet(octets):
    """The sum of the octets modulo 256."""
    return sum(octets) % 256


def seal_half(stamp, data):
    """The sealed half with this stamp and 11 octets of data."""
    octets = [MARK] + digits_of(stamp, 3) + list(data)
    return tuple(octets + [check_octet(octets)])


def read_half(half):
    """The kind of a half, its stamp and its data."""
    if not any(half):
        return "blank", 0, ()
    stamp = number_of(half[1:4])
    if half[0] != MARK or stamp == 0 or half[15] != check_octet(half[:15]):
        return "rotten", 0, ()
    return "good", stamp, tuple(half[4:15])


def seal(stamp, data):
    """The sealed sector with this stamp and at most 22 octets of data."""
    padded = list(data) + [0] * (DATA - len(data))
    return seal_half(stamp, padded[:HALF_DATA]) + seal_half(stamp, padded[HALF_DATA:])


def read_sector(sector):
    """The kind of a sector, its stamp and its data."""
    # Most of a disk is blank, so this is asked first.
    if sector == BLANK:
        return "blank", 0, ()
    first_kind, first_stamp, first_data = read_half(sector[:HALF])
    second_kind, second_stamp, second_data = read_half(sector[HALF:])
    if first_kind == "rotten" or second_kind == "rotten":
        return "rotten", 0, ()
    if first_kind != second_kind or first_stamp != second_stamp:
        return "torn", 0, ()
    return first_kind, first_stamp, first_data + second_data


def newest_stamp(sectors):
    """The greatest stamp of any good half, or 0."""
    halves = [half for sector in sectors if sector != BLANK for half in (sector[:HALF], sector[HALF:])]
    return max([read_half(half)[1] for half in halves], default=0)
