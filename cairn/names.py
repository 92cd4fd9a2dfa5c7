"""The machine over extents, in which a file refers to the blobs of tickets."""

from cairn.calls import Calls
from cairn.extents import part, placed, resized, tickets_of, total
from cairn.files import Files

OPEN = "open"
COMMITTED = "committed"
DEAD = "dead"


class Names:
    """The machine over extents."""

    def __init__(self):
        self._files = Files(Extents())
        self._calls = Calls()
        # For each ticket a tuple (stage, client, number, size); the size is that of the commit, or
        # 0. Whether a committed ticket is wanted or idle is left to what refers to it.
        self._tickets = {}
        # For each client the tickets that the outcome of its last call refers to.
        self._pins = {}

    def apply(self, slot, command):
        """Take the command of the next slot."""
        match command:
            case ("intend", client, number):
                self._intend(slot, client, number)
            case ("commit", ticket, client, number, path, at, size):
                if self._tickets.get(ticket) == (OPEN, client, number, 0):
                    self._commit(slot, ticket, (path, at, size))
            case ("do", client, number, operation):
                self._do(slot, client, number, operation)
            case ("forget", ticket):
                if self.state(ticket) in ("open", "idle"):
                    self._tickets[ticket] = (DEAD,) + self._tickets[ticket][1:]

    def answer_of(self, client, number):
        """The slot, the kind and the value of a call that is the client's last one, or None."""
        return self._calls.answer(client, number)

    def last_number(self, client):
        """The number of the client's last call, or 0."""
        return self._calls.latest(client)

    def state(self, ticket):
        """Whether the ticket is open, wanted, idle or dead; "" if it is none."""
        return self._state_among(ticket, self._referred())

    def wanted(self):
        """The wanted tickets as pairs (ticket, size)."""
        return [(row[0], row[4]) for row in self._ticket_rows() if row[1] == "wanted"]

    def intended(self):
        """The open tickets as triples (ticket, client, number)."""
        return [(row[0], row[2], row[3]) for row in self._ticket_rows() if row[1] == "open"]

    def idle(self):
        """The idle tickets."""
        return [row[0] for row in self._ticket_rows() if row[1] == "idle"]

    def dead(self):
        """The dead tickets."""
        return [row[0] for row in self._ticket_rows() if row[1] == "dead"]

    def ticket_of(self, client, number):
        """The open ticket of a call, or 0."""
        found = [ticket for ticket in self._tickets if self._tickets[ticket] == (OPEN, client, number, 0)]
        return found[0] if found else 0

    def extents(self, path):
        """The canonical list of a file, or None if the path is not that of a file."""
        return self._files.contents_at(path)

    def dump(self):
        """The nodes with the extents of files, the last calls, and the tickets."""
        return self._files.rows(), self._calls.rows(), tuple(self._ticket_rows())

    def _intend(self, slot, client, number):
        if self._calls.counts(client, number) and self.ticket_of(client, number) == 0:
            self._tickets[slot] = (OPEN, client, number, 0)

    def _commit(self, slot, ticket, place):
        """Carry out the write for which the ticket is open, if the call counts still."""
        _, client, number, _ = self._tickets[ticket]
        if not self._calls.counts(client, number):
            return
        path, at, size = place
        outcome = self._files.write(path, at, size, ticket)
        if outcome[0] == "ok":
            self._tickets[ticket] = (COMMITTED, client, number, size)
        else:
            self._tickets[ticket] = (DEAD, client, number, 0)
        self._remember(client, number, slot, outcome, [])

    def _do(self, slot, client, number, operation):
        """Carry out a call without a blob."""
        if not self._calls.counts(client, number) or writes_octets(operation):
            return
        outcome = self._files.outcome(slot, operation)
        if outcome is not None:
            # With an error there are no extents in the value of a read.
            self._remember(client, number, slot, outcome, outcome[1] if operation[0] == "read" else ())

    def _remember(self, client, number, slot, outcome, pinned):
        """A call was carried out, whose answer refers to the extents that are pinned."""
        self._calls.remember(client, number, slot, outcome)
        self._pins[client] = tickets_of(pinned)

    def _referred(self):
        """The tickets that files and pins refer to, as the keys of a dict."""
        lists = [tickets_of(contents) for contents in self._files.all_contents()]
        lists.extend([self._pins[client] for client in self._pins])
        return {ticket: True for tickets in lists for ticket in tickets}

    def _state_among(self, ticket, referred):
        """The state of a ticket, given the tickets that something refers to."""
        if ticket not in self._tickets:
            return ""
        stage = self._tickets[ticket][0]
        if stage == COMMITTED:
            return "wanted" if ticket in referred else "idle"
        return stage

    def _ticket_rows(self):
        """All tickets as tuples (ticket, state, client, number, size), in ascending order."""
        referred = self._referred()
        tickets = sorted(self._tickets)
        return [(ticket, self._state_among(ticket, referred)) + self._tickets[ticket][1:] for ticket in tickets]


class Extents:
    """Contents that are extents."""

    def measured(self, extents):
        """The number of octets."""
        return total(extents)

    def range_of(self, extents, at, count):
        """The extents of a range."""
        return part(extents, at, count)

    def changed(self, extents, at, size, source):
        """The extents with a piece of the blob of a ticket, the source, at the index."""
        return placed(extents, at, size, source)

    def fitted(self, extents, size):
        """The extents cut to the size, or with zeros behind them up to it."""
        return resized(extents, size)


def writes_octets(operation):
    """Whether the operation is a write with octets."""
    match operation:
        case ("write", _, _, octets):
            return len(octets) > 0
    return False
