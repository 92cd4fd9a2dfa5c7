"""What several tests use: octets by the words of the document, and a disk that crashes."""

import random


def digits(number, width):
    """The number as `width` octets, the most significant one first."""
    return [number >> 8 * (width - 1 - k) & 255 for k in range(width)]


def half(stamp, data):
    """A sealed half (3.5)."""
    octets = [197, *digits(stamp, 3), *data]
    assert len(octets) == 15
    return (*octets, sum(octets) % 256)


def sector(stamp, data):
    """A sealed sector (3.5)."""
    octets = [*data, *[0] * (22 - len(data))]
    assert len(octets) == 22
    return half(stamp, octets[:11]) + half(stamp, octets[11:])


def torn(new, old):
    """What is on the disk when only the first half of a sector was written (3.2)."""
    return new[:16] + old[16:]


def replaced(octets, index, by=1):
    """The octets with one of them changed."""
    changed = list(octets)
    changed[index] = (changed[index] + by) % 256
    return tuple(changed)


BLANK = (0,) * 32


class Disk:
    """A disk with open writes and open syncs."""

    def __init__(self):
        self.stored = {}
        self.open_writes = []
        self.open_syncs = []
        self.rotted = set()

    def copied(self):
        other = Disk()
        other.stored = dict(self.stored)
        other.open_writes = list(self.open_writes)
        other.open_syncs = list(self.open_syncs)
        other.rotted = set(self.rotted)
        return other

    def perform(self, effects):
        for effect in effects:
            if effect[0] == "write":
                self.open_writes.append(effect[1:])
            elif effect == ("sync",):
                self.open_syncs.append(len(self.open_writes))

    def store(self, place, new, halves):
        self.stored[place] = new
        for which in halves:
            self.rotted.discard((place, which))

    def finish(self):
        """The oldest sync is finished."""
        count = self.open_syncs.pop(0)
        for place, new in self.open_writes[:count]:
            self.store(place, new, (0, 1))
        del self.open_writes[:count]
        self.open_syncs = [later - count for later in self.open_syncs]

    def crash(self, fates):
        """Each open write is kept (0), lost (1) or torn (2)."""
        for (place, new), fate in zip(self.open_writes, fates, strict=True):
            if fate == 0:
                self.store(place, new, (0, 1))
            elif fate == 2:
                self.store(place, torn(new, self.stored.get(place, BLANK)), (0,))
        self.open_writes = []
        self.open_syncs = []

    def rot(self, place, index, by):
        """An octet is replaced, unless its half has rotted since it was written."""
        which = (place, index // 16)
        if which not in self.rotted:
            self.stored[place] = replaced(self.stored.get(place, BLANK), index, by)
            self.rotted.add(which)

    def random_crash(self, rng):
        self.crash([rng.randrange(3) for _ in self.open_writes])


def random_octets(rng, length):
    return [rng.randrange(256) for _ in range(length)]


def seeded(seed):
    return random.Random(seed)
