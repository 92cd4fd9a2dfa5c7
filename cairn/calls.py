"""Calls that count once."""


class Calls:
    """For each client the last call that was carried out."""

    def __init__(self):
        # For each client a tuple (number, slot, kind, value).
        self._last = {}

    def counts(self, client, number):
        """Whether a call is to be carried out: it is the one behind the client's last one."""
        return number == self.latest(client) + 1

    def remember(self, client, number, slot, outcome):
        """A call was carried out, which is the client's last one now."""
        kind, value = outcome
        self._last[client] = (number, slot, kind, value)

    def latest(self, client):
        """The number of the client's last call, or 0."""
        return self._last[client][0] if client in self._last else 0

    def answer(self, client, number):
        """The slot, the kind and the value of a call that is the client's last one, or None."""
        if client not in self._last or self._last[client][0] != number:
            return None
        return self._last[client][1:]

    def rows(self):
        """All last calls as tuples (client, number, slot, kind, value), in ascending order."""
        return tuple([(client,) + self._last[client] for client in sorted(self._last)])
