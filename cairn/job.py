"""A job: a call that a porter carries out."""

from cairn.commands import is_blob_write
from cairn.effects import sends
from cairn.reader import Reader
from cairn.writer import Writer


class Job:
    """A call of a client, with a writer or a reader if there is one."""

    def __init__(self, config, client, number, op):
        self.client = client
        self.number = number
        self.op = op
        # Whether there is nothing left to do.
        self.over = False
        self._config = config
        self._writer = None
        self._reader = None

    def work(self, machine):
        """Do what the state of the machine allows. Returns the effects."""
        if self._is_behind(machine):
            return self._answer(machine)
        ticket = self._ticket(machine)
        if ticket == 0 or self._has_writer(ticket):
            return []
        self._writer = Writer(self._config, ticket, self.op[3])
        return sends(self._writer.letters())

    def wanted_command(self, machine):
        """The command that the porter is to propose, or None."""
        if self._is_behind(machine):
            return None
        if not is_blob_write(self.op):
            return ("do", self.client, self.number, self.op)
        ticket = self._ticket(machine)
        if ticket == 0:
            return ("intend", self.client, self.number)
        if self._has_writer(ticket) and self._writer.safe():
            _, path, at, octets = self.op
            return ("commit", ticket, self.client, self.number, path, at, len(octets))
        return None

    def kept(self, sender, ticket, index):
        """A shelf has acknowledged a fragment."""
        if self._writer is not None:
            self._writer.kept(sender, ticket, index)

    def piece(self, sender, ticket, index, octets):
        """A shelf has sent a fragment."""
        if self._reader is not None:
            self._reader.piece(sender, ticket, index, octets)

    def puts(self):
        """What the writer has to send again, as pairs (shelf, letter)."""
        return [] if self._writer is None or self._writer.safe() else self._writer.letters()

    def gets(self):
        """What the reader has to send again, as pairs (shelf, letter)."""
        return [] if self._reader is None else self._reader.letters()

    def _is_behind(self, machine):
        """Whether the machine has carried out the call, or a later one of the client."""
        return machine.last_number(self.client) >= self.number

    def _ticket(self, machine):
        """The ticket of the call, or 0."""
        return machine.ticket_of(self.client, self.number) if is_blob_write(self.op) else 0

    def _has_writer(self, ticket):
        return self._writer is not None and self._writer.ticket == ticket

    def _answer(self, machine):
        """Answer a call that is carried out, if its octets are here. Returns the effects."""
        found = machine.answer_of(self.client, self.number)
        if found is None:
            self.over = True
            return []
        slot, kind, value = found
        if self.op[0] != "read" or kind != "ok":
            return self._end_with(found)
        effects = []
        if self._reader is None:
            self._reader = Reader(self._config, value, dict(machine.wanted()))
            effects = sends(self._reader.letters())
        octets = self._reader.result()
        return effects if octets is None else effects + self._end_with((slot, kind, octets))

    def _end_with(self, answer):
        """End the job with an answer."""
        self.over = True
        return [("answer", self.client, self.number, answer)]
