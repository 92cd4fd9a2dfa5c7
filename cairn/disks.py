"""Simulated disks, which lose open writes when their process falls, and which rot."""

from cairn.commands import is_from, is_octet
from cairn.seals import BLANK, HALF

# The fates of an open write. One with another fate is lost.
KEPT = 1
TORN = 2
FATES = 3


class Disk:
    """A disk with open writes and open syncs."""

    def __init__(self):
        self._stored = {}
        # The open writes, pairs (place, sector), in order.
        self._open_writes = []
        # For each open sync how many of the open writes were made before it.
        self._open_syncs = []
        # For each half that has rotted since it was stored, a pair (place, half), the cell.
        self._rotten = {}

    def write(self, place, sector):
        """A sector is written, which stays open until a sync behind it is finished."""
        self._open_writes.append((place, sector))

    def sync(self):
        """A sync of what was written so far is asked for."""
        self._open_syncs.append(len(self._open_writes))

    def open_syncs(self):
        """The number of open syncs."""
        return len(self._open_syncs)

    def finish(self):
        """Finish the oldest open sync, if there is one."""
        if not self._open_syncs:
            return
        count = self._open_syncs[0]
        for place, sector in self._open_writes[:count]:
            self._store(place, sector)
        self._open_writes = self._open_writes[count:]
        self._open_syncs = [later - count for later in self._open_syncs[1:]]

    def fall(self, fates):
        """The process falls: the open writes are kept, lost or torn."""
        for index, (place, sector) in enumerate(self._open_writes):
            fate = fates[index % len(fates)] % FATES if fates else 0
            if fate == KEPT:
                self._store(place, sector)
            elif fate == TORN:
                self._store_half(place, sector)
        self._open_writes = []
        self._open_syncs = []

    def content(self):
        """What is stored: a dict from places to sectors, without blank ones."""
        return {place: sector for place, sector in self._stored.items() if sector != BLANK}

    def shown(self, place):
        """The sector that lies at a place, that of an open write included."""
        written = [sector for other, sector in self._open_writes if other == place]
        return written[-1] if written else self._stored.get(place, BLANK)

    def can_rot(self, place, cell, value):
        """Whether the cell may become this value by rot."""
        if place not in self._stored or not is_octet(value):
            return False
        if not is_from(cell, 0) or cell >= len(BLANK) or self._stored[place][cell] == value:
            return False
        return self._rotten.get((place, cell // HALF), cell) == cell

    def rot(self, place, cell, value):
        """A cell becomes another value."""
        sector = list(self._stored[place])
        sector[cell] = value
        self._stored[place] = tuple(sector)
        self._rotten[(place, cell // HALF)] = cell

    def _store(self, place, sector):
        self._stored[place] = sector
        self._rotten.pop((place, 0), None)
        self._rotten.pop((place, 1), None)

    def _store_half(self, place, sector):
        """Store the first half of a sector."""
        self._stored[place] = sector[:HALF] + self._stored.get(place, BLANK)[HALF:]
        self._rotten.pop((place, 0), None)
