"""The diary: numbered records in a ring of sealed sectors."""

from cairn.errors import DiaryFull, NoSuchRecord, RecordTooLong
from cairn.ring import LONGEST, Entry, complete_entries, record_sectors, sealed_entry, standing_entries
from cairn.seals import BLANK, newest_stamp, read_sector


class Diary:
    """A diary in `count` sectors, beginning at the place `first`."""

    def __init__(self, first, count, sectors):
        ring = [sectors.get(first + position, BLANK) for position in range(count)]
        readings = [read_sector(sector) for sector in ring]
        complete = list(complete_entries(readings).values())
        self._first = first
        self._count = count
        self._was_hurt = "rotten" in [reading[0] for reading in readings]
        self._next_stamp = newest_stamp(ring) + 1
        # The entries whose sectors are not free, those below the base included.
        self._kept = standing_entries(complete, count)
        # For each unfinished flush the number of the last record before it.
        self._flushes = []
        if self._kept:
            last = self._kept[-1]
            self._last_number = last.number
            self._next_number = last.number + 1
            self._root = last.root
            self._end = (last.start + last.length) % count
        else:
            self._last_number = 0
            self._next_number = 1 + max([entry.number for entry in complete], default=0)
            self._root = self._next_number
            self._end = 0
        self._safe_number = self._last_number
        self._free_count = count - sum([entry.length for entry in self._kept])

    def entries(self):
        """The records that stand from the base on, as pairs of a number and a record."""
        standing = [entry for entry in self._kept if entry.number >= self._root]
        return [(entry.number, list(entry.payload)) for entry in standing]

    def next_number(self):
        """The number of the next record."""
        return self._next_number

    def base(self):
        """The number below which no record is needed."""
        return self._root

    def enter(self, record):
        """Write a record. Returns its number and the effects."""
        if len(record) > LONGEST:
            raise RecordTooLong(f"a record has at most {LONGEST} octets, not {len(record)}")
        if record_sectors(len(record)) > self._free_count:
            raise DiaryFull(f"{self._free_count} sectors are free")
        entry = Entry(self._next_number, record, self._end, self._next_stamp)
        if entry.number > self._root:
            entry.before = self._kept[-1].stamp
            entry.root = self._root
            entry.root_stamp = self._entry(self._root).stamp
        self._kept.append(entry)
        self._last_number = entry.number
        self._next_number = entry.number + 1
        self._next_stamp = entry.stamp + entry.length
        self._end = (entry.start + entry.length) % self._count
        self._free_count = self._free_count - entry.length
        return entry.number, self._writes(entry)

    def flush(self):
        """Ask for a sync."""
        self._flushes.append(self._last_number)
        return [("sync",)]

    def synced(self):
        """The oldest unfinished sync is finished. Returns the number of the last safe record."""
        if self._flushes:
            number = self._flushes.pop(0)
            if number > self._safe_number:
                self._safe_number = number
                self._release(self._entry(number).root)
        return self._safe_number

    def forget(self, number):
        """The records below the number are no longer needed."""
        if number < self._root or number > self._next_number:
            raise NoSuchRecord(f"{number} is not from {self._root} to {self._next_number}")
        self._root = number

    def free(self):
        """The number of free sectors."""
        return self._free_count

    def hurt(self):
        """Whether some half was rotten when the ring was read."""
        return self._was_hurt

    def _entry(self, number):
        """The entry with this number, which is not released yet."""
        return self._kept[number - self._kept[0].number]

    def _writes(self, entry):
        """The effects that write an entry."""
        places = [self._first + (entry.start + offset) % self._count for offset in range(entry.length)]
        return [("write", place, sector) for place, sector in zip(places, sealed_entry(entry))]

    def _release(self, root):
        """Free the sectors of the records below a base that a safe record carries."""
        released = [entry for entry in self._kept if entry.number < root]
        self._free_count = self._free_count + sum([entry.length for entry in released])
        self._kept = self._kept[len(released):]
