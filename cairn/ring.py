"""Reading the ring of a diary."""

from cairn.digits import digits_of, number_of
from cairn.runs import run_octets, sealed_run, sectors_needed

HEAD_MARK = 1
TAIL_MARK = 2
HEAD_ROOM = 7
LONGEST = 600


class Entry:
    """A record in the ring: where it lies, and what it carries.

    `start` counts from the first sector of the ring, `stamp` is that of the entry's first sector,
    `before` that of the entry before it, or 0. `root` is the base that the entry carries, and
    `root_stamp` the stamp that it carries for the base.
    """

    def __init__(self, number, payload, start, stamp):
        self.number = number
        self.payload = list(payload)
        self.start = start
        self.stamp = stamp
        self.length = record_sectors(len(payload))
        self.before = 0
        self.root = number
        self.root_stamp = stamp


def record_sectors(length):
    """How many sectors a record of `length` octets occupies."""
    return sectors_needed(length, HEAD_ROOM)


def sealed_entry(entry):
    """The sectors of an entry, in order."""
    head = [HEAD_MARK] + digits_of(entry.number, 3) + digits_of(len(entry.payload), 2)
    head = head + digits_of(entry.before, 3)
    head = head + digits_of(entry.root, 3) + digits_of(entry.root_stamp, 3)
    return sealed_run(entry.stamp, head, entry.payload, TAIL_MARK)


def complete_entries(readings):
    """The entry of each complete record, by its start."""
    found = {}
    for start in range(len(readings)):
        entry = complete_entry(readings, start)
        if entry is not None:
            found[start] = entry
    return found


def complete_entry(readings, start):
    """The entry of the complete record that begins at `start`, or None."""
    kind, stamp, data = readings[start]
    if kind != "good" or data[0] != HEAD_MARK:
        return None
    length = number_of(data[4:6])
    if length > LONGEST:
        return None
    places = [(start + offset) % len(readings) for offset in range(record_sectors(length))]
    octets = run_octets([readings[place] for place in places], HEAD_ROOM, TAIL_MARK)
    if octets is None:
        return None
    entry = Entry(number_of(data[1:4]), octets[:length], start, stamp)
    entry.before = number_of(data[6:9])
    entry.root = number_of(data[9:12])
    entry.root_stamp = number_of(data[12:15])
    return entry


def chains(entries, count):
    """Lists of entries in which each one is the predecessor of the next one.

    No entry stands in two of them: at most one begins where another one ends.
    """
    chain_before = {}
    found = []
    for entry in sorted(entries, key=lambda known: known.number):
        chain = chain_before.get(entry.start, [])
        if not chain or not follows(entry, chain[-1]):
            chain = []
            found.append(chain)
        chain.append(entry)
        chain_before[(entry.start + entry.length) % count] = chain
    return found


def follows(entry, other):
    """Whether the other entry, which ends where this one begins, is its predecessor."""
    return other.number == entry.number - 1 and other.stamp == entry.before


def standing_entries(entries, count):
    """The entries that stand, from the base to the last one."""
    found = []
    for chain in chains(entries, count):
        for position, entry in enumerate(chain):
            root_position = position - (entry.number - entry.root)
            if anchored(entry, chain, root_position):
                found.append((entry.stamp, chain, root_position, position))
    if not found:
        return []
    _, chain, root_position, position = max(found, key=lambda known: known[0])
    return chain[root_position:position + 1]


def anchored(entry, chain, root_position):
    """Whether the chain leads from the entry to the record that it carries as its base."""
    if entry.root > entry.number or root_position < 0:
        return False
    return chain[root_position].stamp == entry.root_stamp
