"""The calls of the clients of a world, and the history of calls and answers."""


class Ledger:
    """A ledger, in which a client has at most one open call."""

    def __init__(self):
        self._entries = []
        # For each client the operations of its calls, in the order of their numbers.
        self._ops = {}
        # For each closed call, a pair (client, number), its answer.
        self._answers = {}

    def entries(self):
        """The history."""
        return list(self._entries)

    def begin(self, client, op):
        """The client makes its next call."""
        self._ops.setdefault(client, []).append(op)
        self._entries.append(("call",) + self.last_call(client))

    def last_call(self, client):
        """The client's last call as a tuple (client, number, op), or None."""
        if client not in self._ops:
            return None
        return client, len(self._ops[client]), self._ops[client][-1]

    def is_open(self, client):
        """Whether the client's last call has no answer."""
        return client in self._ops and (client, len(self._ops[client])) not in self._answers

    def open_calls(self):
        """The open calls as tuples (client, number, op), in ascending order of clients."""
        return [self.last_call(client) for client in sorted(self._ops) if self.is_open(client)]

    def note(self, client, number, answer):
        """Take an answer. Returns False if the call was never made or has another answer."""
        if client not in self._ops or number < 1 or number > len(self._ops[client]):
            return False
        if (client, number) in self._answers:
            return self._answers[(client, number)] == answer
        self._answers[(client, number)] = answer
        self._entries.append(("answer", client, number, answer))
        return True
