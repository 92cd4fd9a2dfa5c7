"""Octets over several sealed sectors: a head with the first octets, and tails with the others."""

from cairn.seals import DATA, seal

# A tail begins with an octet that marks it as one.
TAIL_ROOM = 21


def sectors_needed(length, room):
    """How many sectors `length` octets occupy, if the head has room for the first `room` of them."""
    if length <= room:
        return 1
    return 1 + (length - room + TAIL_ROOM - 1) // TAIL_ROOM


def sealed_run(stamp, head, octets, tail_mark):
    """The sectors of a run in order. The first one has the stamp, and begins with the head."""
    room = DATA - len(head)
    parts = [head + octets[:room]]
    for at in range(room, len(octets), TAIL_ROOM):
        parts.append([tail_mark] + octets[at:at + TAIL_ROOM])
    return [seal(stamp + offset, part) for offset, part in enumerate(parts)]


def run_octets(readings, room, tail_mark):
    """The octets in a run, unused ones included, or None if its sectors do not form one.

    The readings are what read_sector says of the sectors, in order; the first one is a head.
    """
    stamp = readings[0][1]
    octets = list(readings[0][2][DATA - room:])
    for offset, (kind, tail_stamp, data) in enumerate(readings):
        if offset > 0:
            if kind != "good" or data[0] != tail_mark or tail_stamp != stamp + offset:
                return None
            octets.extend(data[1:])
    return octets
