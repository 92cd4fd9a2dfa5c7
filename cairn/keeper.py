"""The keeper: a process that promises, votes, and remembers what is decided."""

from cairn.ballot import CLOSE, NOTHING, PROMISE, VOTE, Tally, entries
from cairn.diary import Diary
from cairn.errors import DiaryFull, RecordTooLong
from cairn.pack import pack, read_value
from cairn.ring import LONGEST, record_sectors

# A command may be nested as deep as `unpack` reads, and the record around it is nested deeper. So
# the keeper counts the depth of its own records from below 1, twice as deep as `unpack`.
OUTERMOST = -7


class Keeper:
    """A keeper. It answers whoever sends a letter, and needs its own name for nothing."""

    def __init__(self, me, config, sectors):
        self._sectors = config.sectors
        self._diary = Diary(0, config.sectors, sectors)
        self._known = Tally(records_of(self._diary))
        # The syncs have the numbers 1, 2, 3 and so on, in the order in which they were asked for.
        self._asked = 0
        self._finished = 0
        # Replies that wait, in order: tuples (sync, effect).
        self._replies = []

    def letter(self, sender, letter):
        """Handle a letter."""
        if self._diary.hurt():
            return []
        try:
            return self._handle(sender, letter)
        except (DiaryFull, RecordTooLong):
            return []

    def synced(self):
        """The oldest unfinished sync is finished."""
        if self._finished == self._asked:
            return []
        self._diary.synced()
        self._finished = self._finished + 1
        due = [effect for sync, effect in self._replies if sync == self._finished]
        self._replies = [reply for reply in self._replies if reply[0] > self._finished]
        return due

    def tick(self):
        """Some time has passed."""
        return []

    def tally(self):
        """A tally with the keeper's state."""
        return self._known.copied()

    def _handle(self, sender, letter):
        match letter:
            case ("ask", slot, ballot):
                return self._ask(sender, slot, ballot)
            case ("vote", slot, ballot, command):
                return self._vote(sender, slot, ballot, command)
            case ("tell", slot, command):
                if not self._known.closed(slot):
                    return self._note((CLOSE, slot, command))
            case ("read", slot):
                return self._reply(sender, ("log", slot, tuple(entries(self._known, slot))))
        return []

    def _ask(self, sender, slot, ballot):
        refusal = self._refusal(slot, ballot)
        if refusal != ():
            return self._reply(sender, refusal)
        effects = []
        if ballot > self._known.promised(slot):
            effects = self._note((PROMISE, slot, ballot))
        last = (self._known.voted(slot), self._known.command(slot))
        return effects + self._reply(sender, ("promise", slot, ballot) + last)

    def _vote(self, sender, slot, ballot, command):
        refusal = self._refusal(slot, ballot)
        if refusal != ():
            return self._reply(sender, refusal)
        effects = []
        if ballot != self._known.voted(slot):
            effects = self._note((VOTE, slot, ballot, command))
        return effects + self._reply(sender, ("voted", slot, ballot))

    def _refusal(self, slot, ballot):
        """The letter that the ballot gets instead of a promise or a vote, or ()."""
        if self._known.closed(slot):
            return ("decided", slot, self._known.command(slot))
        promised = self._known.promised(slot)
        if ballot < promised:
            return ("refuse", slot, ballot, promised)
        return ()

    def _reply(self, to, letter):
        """Send a letter when all that was written so far is durable, which may be at once."""
        effect = ("send", to, letter)
        if self._finished == self._asked:
            return [effect]
        self._replies.append((self._asked, effect))
        return []

    def _note(self, record):
        """Change the state by a record, and write it."""
        octets = pack(record)
        effects = self._restate(octets) + self._diary.enter(octets)[1] + self._diary.flush()
        self._asked = self._asked + 1
        self._known.apply(record)
        return effects

    def _restate(self, octets):
        """Enter the state anew and forget what was before, if it is time to and the octets fit behind it."""
        free = self._diary.free()
        # A record that the diary refuses changes nothing, so nothing is restated for it either.
        if 2 * free >= self._sectors or len(octets) > LONGEST:
            return []
        restated = [pack(record) for record in self._known.records()]
        needed = sum([record_sectors(len(record)) for record in restated])
        if needed + 1 + record_sectors(len(octets)) > free or 2 * needed + 2 > self._sectors - free:
            return []
        first = self._diary.next_number()
        effects = []
        for record in restated:
            effects.extend(self._diary.enter(record)[1])
        self._diary.forget(first)
        # Only a record behind the others carries the new base when all of them are there.
        return effects + self._diary.enter(pack((NOTHING,)))[1]


def records_of(diary):
    """The records in the diary of a keeper, as tuples."""
    return [read_value(octets, 0, OUTERMOST)[0] for _, octets in diary.entries()]
