"""The shelf: a process that stores fragments on its disk."""

from cairn.errors import FragmentTooLong, ShelfFull
from cairn.index import Index

REWRITTEN = "rewritten"
TRIMMED = "trimmed"


class Shelf:
    """A shelf. It answers whoever sends a letter, and needs its own name for nothing."""

    def __init__(self, me, config, sectors):
        self._index = Index(config.sectors, sectors)
        # The syncs have the numbers 1, 2, 3 and so on, in the order in which they were asked for.
        self._asked = 0
        self._finished = 0
        # For each held ticket the sync that makes it safe; 0 if it was read from the disk.
        self._safe_with = {ticket: 0 for ticket in self._index.tickets()}
        # Answers that wait, in the order of their letters: tuples (sync, receiver, letter).
        self._answers = []
        # For each ticket with a copy that waits, the sync that it waits for, and what was written.
        self._copies = {}

    def letter(self, sender, letter):
        """Handle a letter."""
        match letter:
            case ("put", ticket, index, octets):
                return self._put(sender, ticket, index, octets)
            case ("get", ticket):
                return self._get(sender, ticket)
            case ("drop", ticket):
                return self._drop(sender, ticket)
            case ("list",):
                return [("send", sender, ("have", self._safe_tickets()))]
        return []

    def synced(self):
        """The oldest unfinished sync is finished."""
        if self.waiting() == 0:
            return []
        self._finished = self._finished + 1
        due = [("send", to, letter) for sync, to, letter in self._answers if sync == self._finished]
        self._answers = [answer for answer in self._answers if answer[0] > self._finished]
        return self._continue_copy() + due

    def tick(self):
        """Some time has passed."""
        return []

    def look(self, place, sector):
        """See what lies on the disk, and write the fragment anew that it belongs to, if it is spoilt."""
        ticket = self._index.spoilt(place, sector)
        if ticket == 0 or ticket in self._copies:
            return []
        try:
            writes = self._index.rewrite(ticket)
        except ShelfFull:
            return []
        syncs = self._sync()
        self._copies[ticket] = (self._asked, REWRITTEN)
        return writes + syncs

    def holds(self):
        """The held fragments as tuples (ticket, index, octets), in ascending order of the tickets."""
        found = []
        for ticket in self._index.tickets():
            index, octets = self._index.fragment(ticket)
            found.append((ticket, index, tuple(octets)))
        return found

    def is_safe(self, ticket):
        """Whether the ticket is held and safe."""
        return ticket in self._safe_with and self._safe_with[ticket] <= self._finished

    def waiting(self):
        """The number of unfinished syncs."""
        return self._asked - self._finished

    def _put(self, sender, ticket, index, octets):
        held = self._index.fragment(ticket)
        if held is None:
            return self._store(sender, ticket, index, octets)
        if held != (index, list(octets)):
            return [("send", sender, ("other", ticket, held[0]))]
        return self._answer(self._safe_with[ticket], sender, ("kept", ticket, index))

    def _store(self, sender, ticket, index, octets):
        """Write a fragment that is not held."""
        try:
            writes = self._index.put(ticket, index, octets)
        except (FragmentTooLong, ShelfFull):
            return [("send", sender, ("crowded", ticket))]
        syncs = self._sync()
        self._safe_with[ticket] = self._asked
        return writes + syncs + self._answer(self._asked, sender, ("kept", ticket, index))

    def _get(self, sender, ticket):
        held = self._index.fragment(ticket)
        if held is None:
            return [("send", sender, ("missing", ticket))]
        index, octets = held
        return [("send", sender, ("piece", ticket, index, tuple(octets)))]

    def _drop(self, sender, ticket):
        effects = []
        if ticket in self._safe_with:
            effects = self._index.drop(ticket) + self._sync()
            del self._safe_with[ticket]
            self._answers = [answer for answer in self._answers if answer[2][:2] != ("kept", ticket)]
        # Where nothing is held, it may be that an earlier drop is not safe yet.
        return effects + self._answer(self._asked, sender, ("dropped", ticket))

    def _safe_tickets(self):
        return tuple([ticket for ticket in self._index.tickets() if self.is_safe(ticket)])

    def _sync(self):
        """Ask for a sync."""
        self._asked = self._asked + 1
        return [("sync",)]

    def _answer(self, sync, to, letter):
        """Send a letter when the sync is finished, which may be at once."""
        if sync <= self._finished:
            return [("send", to, letter)]
        self._answers.append((sync, to, letter))
        return []

    def _continue_copy(self):
        """What follows for the copy, if there is one, that waited for the sync that is finished now."""
        effects = []
        due = [ticket for ticket in self._copies if self._copies[ticket][0] == self._finished]
        for ticket in due:
            written = self._copies.pop(ticket)[1]
            if written == REWRITTEN and ticket in self._safe_with:
                effects = self._index.trim(ticket) + self._sync()
                self._copies[ticket] = (self._asked, TRIMMED)
        return effects
