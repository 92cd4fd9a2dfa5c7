"""The index of a shelf: which fragment lies where on the disk."""

from cairn.digits import digits_of, number_of
from cairn.errors import AlreadyHeld, FragmentTooLong, NotHeld, ShelfFull
from cairn.runs import run_octets, sealed_run, sectors_needed
from cairn.seals import BLANK, newest_stamp, read_sector, seal

HEAD_MARK = 4
TAIL_MARK = 5
FREE_MARK = 6
HEAD_ROOM = 15
LONGEST = 200


class Index:
    """The index of a disk of `count` sectors."""

    def __init__(self, count, sectors):
        disk = [sectors.get(place, BLANK) for place in range(count)]
        readings = [read_sector(sector) for sector in disk]
        self._count = count
        self._was_hurt = "rotten" in [reading[0] for reading in readings]
        self._next_stamp = newest_stamp(disk) + 1
        # For each held ticket the index and the octets.
        self._fragments = {}
        # For each held ticket its runs: tuples (stamp, first place, number of sectors), the
        # greatest stamp last.
        self._runs = {}
        # For each place of a run the ticket and the sector.
        self._owned = {}
        # In the order of the stamps, so that what is read last of a ticket is what counts.
        for stamp, start, ticket, index, octets in sorted(complete_runs(readings)):
            self._fragments[ticket] = (index, octets)
            length = fragment_sectors(len(octets))
            self._own(ticket, stamp, start, disk[start:start + length])

    def tickets(self):
        """The held tickets in ascending order."""
        return sorted(self._fragments)

    def fragment(self, ticket):
        """The index and the octets of a held ticket, or None."""
        if ticket not in self._fragments:
            return None
        index, octets = self._fragments[ticket]
        return index, list(octets)

    def runs(self, ticket):
        """The first places and the lengths of a ticket's runs, in ascending order."""
        return sorted([(start, length) for _, start, length in self._runs.get(ticket, [])])

    def put(self, ticket, index, octets):
        """Write a run of a new fragment."""
        if len(octets) < 1 or len(octets) > LONGEST:
            raise FragmentTooLong(f"a fragment has 1 to {LONGEST} octets, not {len(octets)}")
        if ticket in self._fragments:
            raise AlreadyHeld(f"the ticket {ticket} is held")
        start = self._free_start(fragment_sectors(len(octets)))
        self._fragments[ticket] = (index, tuple(octets))
        return self._write_run(ticket, start)

    def rewrite(self, ticket):
        """Write one more run of a held fragment."""
        self._check_held(ticket)
        start = self._free_start(fragment_sectors(len(self._fragments[ticket][1])))
        return self._write_run(ticket, start)

    def drop(self, ticket):
        """Hold a fragment no longer."""
        self._check_held(ticket)
        del self._fragments[ticket]
        return self._release(self._runs.pop(ticket))

    def trim(self, ticket):
        """Give up all runs of a held fragment but the newest one."""
        self._check_held(ticket)
        runs = self._runs[ticket]
        self._runs[ticket] = runs[-1:]
        return self._release(runs[:-1])

    def spoilt(self, place, sector):
        """The ticket that suffers if the sector is what lies at the place, or 0."""
        ticket, written = self._owned.get(place, (0, sector))
        return ticket if sector != written else 0

    def free(self):
        """The number of free places."""
        return self._count - len(self._owned)

    def hurt(self):
        """Whether some half was rotten when the disk was read."""
        return self._was_hurt

    def _check_held(self, ticket):
        if ticket not in self._fragments:
            raise NotHeld(f"the ticket {ticket} is not held")

    def _free_start(self, length):
        """The lowest place at which `length` consecutive places are free."""
        free_behind = 0
        for place in range(self._count):
            free_behind = 0 if place in self._owned else free_behind + 1
            if free_behind == length:
                return place - length + 1
        raise ShelfFull(f"no {length} consecutive places are free")

    def _write_run(self, ticket, start):
        """The effects that write a run of the ticket's fragment, which is its newest one now."""
        index, octets = self._fragments[ticket]
        head = [HEAD_MARK] + digits_of(ticket, 3) + [index, len(octets), 0]
        stamp = self._next_stamp
        sectors = sealed_run(stamp, head, list(octets), TAIL_MARK)
        self._own(ticket, stamp, start, sectors)
        self._next_stamp = stamp + len(sectors)
        return [("write", place, sector) for place, sector in enumerate(sectors, start)]

    def _own(self, ticket, stamp, start, sectors):
        """Note a run of the ticket."""
        self._runs.setdefault(ticket, []).append((stamp, start, len(sectors)))
        for place, sector in enumerate(sectors, start):
            self._owned[place] = (ticket, sector)

    def _release(self, runs):
        """The effects that write free marks over the runs, whose places are free from now on."""
        effects = []
        for start, length in sorted([(start, length) for _, start, length in runs]):
            for place in range(start, start + length):
                del self._owned[place]
            effects.append(("write", start, seal(self._next_stamp, [FREE_MARK])))
            self._next_stamp = self._next_stamp + 1
        return effects


def fragment_sectors(length):
    """How many sectors a fragment of `length` octets occupies."""
    return sectors_needed(length, HEAD_ROOM)


def complete_runs(readings):
    """The complete runs as tuples (stamp, first place, ticket, index, octets)."""
    found = [complete_run(readings, start) for start in range(len(readings))]
    return [run for run in found if run is not None]


def complete_run(readings, start):
    """The complete run that begins at the place `start`, or None."""
    kind, stamp, data = readings[start]
    if kind != "good" or data[0] != HEAD_MARK:
        return None
    ticket = number_of(data[1:4])
    length = data[5]
    end = start + fragment_sectors(length)
    if ticket < 1 or length < 1 or length > LONGEST or end > len(readings):
        return None
    octets = run_octets(readings[start:end], HEAD_ROOM, TAIL_MARK)
    if octets is None:
        return None
    return stamp, start, ticket, data[4], tuple(octets[:length])
