"""The contents of files as lists of extents: tuples (ticket, offset, length)."""

# The ticket that stands for zeros.
ZEROS = 0


def total(extents):
    """The number of octets."""
    return sum([length for _, _, length in extents])


def part(extents, at, count):
    """The range of at most `count` octets from the index `at` on."""
    found = []
    start = 0
    for ticket, offset, length in extents:
        first = max(at - start, 0)
        end = min(at + count - start, length)
        if first < end:
            found.append((ticket, ZEROS if ticket == ZEROS else offset + first, end - first))
        start = start + length
    return found


def placed(extents, at, size, ticket):
    """The contents with `size` octets at the index `at` replaced by the blob of the ticket."""
    front = resized(extents, at)
    back = part(extents, at + size, total(extents))
    return joined(front + [(ticket, 0, size)] + back)


def resized(extents, size):
    """The contents cut to the size, or with zeros behind them up to it."""
    missing = max(size - total(extents), 0)
    return joined(part(extents, 0, size) + [(ZEROS, 0, missing)])


def octets_of(extents, blobs):
    """The octets that the extents stand for."""
    octets = []
    for ticket, offset, length in extents:
        if ticket == ZEROS:
            octets.extend([0] * length)
        else:
            octets.extend(blobs[ticket][offset:offset + length])
    return octets


def tickets_of(extents):
    """The tickets except that of zeros, in ascending order."""
    found = {ticket: True for ticket, _, _ in extents if ticket != ZEROS}
    return sorted(found)


def joined(extents):
    """The canonical list of the same octets: without empty extents, and neighbours made one."""
    found = []
    for ticket, offset, length in extents:
        if found and goes_on(found[-1], ticket, offset):
            found[-1] = (ticket, found[-1][1], found[-1][2] + length)
        elif length > 0:
            found.append((ticket, offset, length))
    return found


def goes_on(extent, ticket, offset):
    """Whether an extent of the ticket at the offset lies behind the other one in the same blob."""
    if ticket != extent[0]:
        return False
    return ticket == ZEROS or offset == extent[1] + extent[2]
