"""What the shelves have, what is to be done about it, and the repair of a blob."""

from cairn.blobs import fragment_length, fragments, index_on, lies_on, whole_blob
from cairn.errors import BadRepair


class Survey:
    """The question to all shelves which tickets they have."""

    def __init__(self, config):
        self._shelves = config.shelf_names()
        # For each shelf that has answered the tickets that it has named.
        self._listings = {}

    def letters(self):
        """What is to be sent to the shelves, as pairs (shelf, letter)."""
        return [(shelf, ("list",)) for shelf in self._shelves if shelf not in self._listings]

    def have(self, sender, tickets):
        """A shelf has answered."""
        if sender in self._shelves and sender not in self._listings:
            self._listings[sender] = tuple(tickets)

    def complete(self):
        """The shelves that have answered, in order."""
        return tuple([shelf for shelf in self._shelves if shelf in self._listings])

    def listed(self, shelf):
        """The tickets that a shelf has named."""
        return self._listings.get(shelf, ())


class Repair:
    """The making of the fragments of one blob on some shelves, its targets, anew."""

    def __init__(self, config, ticket, size, shelves):
        if len(shelves) > config.shelves - config.data:
            raise BadRepair(f"without {len(shelves)} shelves, too few are left to read the ticket {ticket}")
        self.ticket = ticket
        self.targets = tuple(shelves)
        self._config = config
        self._size = size
        # A dict from indexes to fragments, which takes no more than are needed.
        self._pieces = {}
        # All fragments of the blob, as soon as there are enough pieces.
        self._word = []
        # The targets that have acknowledged, as the keys of a dict.
        self._acknowledged = {}

    def letters(self):
        """What is to be sent to the shelves, as pairs (shelf, letter)."""
        if self._word:
            return [(shelf, self._put(shelf)) for shelf in self.targets if shelf not in self._acknowledged]
        sources = [shelf for shelf in self._config.shelf_names() if shelf not in self.targets]
        return [(shelf, ("get", self.ticket)) for shelf in sources if self._index_on(shelf) not in self._pieces]

    def piece(self, sender, ticket, index, octets):
        """A shelf has sent a fragment."""
        if self._word or index in self._pieces or sender in self.targets or not self._fits(sender, ticket, index):
            return
        if len(octets) == fragment_length(self._config, self._size):
            self._pieces[index] = tuple(octets)
            if len(self._pieces) == self._config.data:
                self._word = fragments(self._config, whole_blob(self._config, self._pieces, self._size))

    def kept(self, sender, ticket, index):
        """A shelf has acknowledged a fragment."""
        if self._word and sender in self.targets and self._fits(sender, ticket, index):
            self._acknowledged[sender] = True

    def done(self):
        """Whether all targets have acknowledged."""
        return all([shelf in self._acknowledged for shelf in self.targets])

    def _fits(self, sender, ticket, index):
        """Whether a letter is about a fragment of this blob, and the sender is its holder."""
        return ticket == self.ticket and lies_on(self._config, ticket, index, sender)

    def _index_on(self, shelf):
        return index_on(self._config, self.ticket, shelf)

    def _put(self, shelf):
        index = self._index_on(shelf)
        return ("put", self.ticket, index, tuple(self._word[index]))


def plan(config, wanted, dead, listings):
    """What is to be repaired, and what is to be dropped."""
    shelves = [shelf for shelf in config.shelf_names() if shelf in listings]
    repairs = []
    for ticket in sorted(wanted):
        targets = tuple([shelf for shelf in shelves if ticket not in listings[shelf]])
        if targets:
            repairs.append((ticket, targets))
    unwanted = sorted({ticket: True for ticket in dead})
    drops = [(shelf, ticket) for shelf in shelves for ticket in unwanted if ticket in listings[shelf]]
    return repairs, drops


def whole(config, wanted, listings):
    """Whether every shelf has every wanted ticket."""
    shelves = config.shelf_names()
    if not all([shelf in listings for shelf in shelves]):
        return False
    return all([ticket in listings[shelf] for shelf in shelves for ticket in wanted])
