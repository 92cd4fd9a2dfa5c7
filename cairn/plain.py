"""The plain machine, in which a file is a list of octets."""

from cairn.calls import Calls
from cairn.files import Files


class Plain:
    """The plain machine."""

    def __init__(self):
        self._files = Files(Octets())
        self._calls = Calls()

    def apply(self, slot, client, number, operation):
        """Carry out a call, if it counts."""
        if self._calls.counts(client, number):
            outcome = self._files.outcome(slot, operation)
            if outcome is not None:
                self._calls.remember(client, number, slot, outcome)

    def answer_of(self, client, number):
        """The slot, the kind and the value of a call that is the client's last one, or None."""
        return self._calls.answer(client, number)

    def last_number(self, client):
        """The number of the client's last call, or 0."""
        return self._calls.latest(client)

    def dump(self):
        """The nodes with the octets of files, and the last calls."""
        return self._files.rows(), self._calls.rows()


class Octets:
    """Contents that are octets."""

    def measured(self, octets):
        """The number of octets."""
        return len(octets)

    def range_of(self, octets, at, count):
        """The octets from the index on, at most as many as are asked for."""
        return octets[at:at + count]

    def changed(self, octets, at, size, source):
        """The octets with those of the source at the index, and zeros in a gap before it."""
        return self.fitted(octets, at) + list(source) + octets[at + size:]

    def fitted(self, octets, size):
        """The octets cut to the size, or with zeros behind them up to it."""
        return octets[:size] + [0] * (size - len(octets))
