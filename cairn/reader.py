"""The reader, which gathers the octets that extents stand for."""

from cairn.blobs import fragment_length, index_on, lies_on, whole_blob
from cairn.extents import octets_of, tickets_of


class Reader:
    """A reader of the octets of extents."""

    def __init__(self, config, extents, sizes):
        self._config = config
        self._extents = tuple(extents)
        # For each ticket that is needed, in ascending order, the size of its blob.
        self._sizes = {ticket: sizes[ticket] for ticket in tickets_of(extents)}
        # For each of these tickets a dict from indexes to fragments.
        self._pieces = {ticket: {} for ticket in self._sizes}

    def letters(self):
        """What is to be sent to the shelves, as pairs (shelf, letter)."""
        return [(shelf, ("get", ticket)) for ticket in self._lacking() for shelf in self._silent(ticket)]

    def piece(self, sender, ticket, index, octets):
        """A shelf has sent a fragment."""
        if ticket not in self._sizes or not lies_on(self._config, ticket, index, sender):
            return
        if len(octets) == fragment_length(self._config, self._sizes[ticket]):
            self._pieces[ticket].setdefault(index, tuple(octets))

    def result(self):
        """The octets, or None if too few fragments are here."""
        if self._lacking():
            return None
        blobs = {ticket: self._blob(ticket) for ticket in self._sizes}
        return tuple(octets_of(self._extents, blobs))

    def _lacking(self):
        """The tickets of which too few fragments are here."""
        return [ticket for ticket in self._pieces if len(self._pieces[ticket]) < self._config.data]

    def _silent(self, ticket):
        """The shelves whose fragment of the ticket is not here."""
        shelves = self._config.shelf_names()
        return [shelf for shelf in shelves if index_on(self._config, ticket, shelf) not in self._pieces[ticket]]

    def _blob(self, ticket):
        return whole_blob(self._config, self._pieces[ticket], self._sizes[ticket])
