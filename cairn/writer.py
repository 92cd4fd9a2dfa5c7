"""The writer, which stores a blob on the shelves."""

from cairn.blobs import fragments, holder, lies_on


class Writer:
    """A writer of the octets of one ticket."""

    def __init__(self, config, ticket, octets):
        self.ticket = ticket
        self._config = config
        self._fragments = [tuple(fragment) for fragment in fragments(config, octets)]
        # The indexes that are acknowledged, as the keys of a dict.
        self._acknowledged = {}

    def letters(self):
        """What is to be sent to the shelves, as pairs (shelf, letter)."""
        missing = [index for index in range(self._config.shelves) if index not in self._acknowledged]
        return [(holder(self._config, self.ticket, index), self._put(index)) for index in missing]

    def kept(self, sender, ticket, index):
        """A shelf has acknowledged a fragment."""
        if ticket == self.ticket and lies_on(self._config, ticket, index, sender):
            self._acknowledged[index] = True

    def safe(self):
        """Whether the blob stays readable although shelves lose their disks."""
        return len(self._acknowledged) >= self._config.data + self._config.spare

    def full(self):
        """Whether all fragments are acknowledged."""
        return len(self._acknowledged) == self._config.shelves

    def _put(self, index):
        return ("put", self.ticket, index, self._fragments[index])
