"""The inspector: what the disks of a stopped store hold."""

from cairn.ballot import CLOSE, VOTE, majority
from cairn.blobs import code_of, fragment_length, index_on
from cairn.commands import as_command
from cairn.correct import correct
from cairn.diary import Diary
from cairn.errors import BlobLost, NoFile, TooFewDisks, TooManyErrors
from cairn.extents import octets_of, tickets_of, total
from cairn.index import Index
from cairn.keeper import records_of
from cairn.names import Names

WHOLE = "whole"
THIN = "thin"
LOST = "lost"


class Audit:
    """An audit of the disks of keepers and shelves."""

    def __init__(self, config, keeper_disks, shelf_disks):
        present = [name for name in config.keeper_names() if name in keeper_disks]
        diaries = [Diary(0, config.sectors, keeper_disks[name]) for name in present]
        readable = [diary for diary in diaries if not diary.hurt()]
        if len(readable) < majority(config.keepers):
            raise TooFewDisks(f"only {len(readable)} of {config.keepers} keepers have readable disks")
        self._config = config
        # For each closed slot its command.
        self._closings = {}
        # For each slot a dict from the ballots of its votes to pairs: the command, and how many
        # disks have the vote.
        self._votes = {}
        for diary in readable:
            self._take(records_of(diary))
        shelves = [name for name in config.shelf_names() if name in shelf_disks]
        self._indexes = {name: Index(config.sectors, shelf_disks[name]) for name in shelves}

    def log(self):
        """The recovered commands, up to the first slot that has none."""
        commands = []
        command = self._recovered(1)
        while command is not None:
            commands.append(command)
            command = self._recovered(len(commands) + 1)
        return commands

    def certain(self, slot):
        """Whether the recovered command of the slot is decided for sure."""
        counts = [count for _, count in self._votes.get(slot, {}).values()]
        return slot in self._closings or max(counts, default=0) >= majority(self._config.keepers)

    def names(self):
        """A machine to which the recovered commands are applied."""
        machine = Names()
        for slot, command in enumerate(self.log(), 1):
            machine.apply(slot, as_command(command))
        return machine

    def blob(self, ticket, size):
        """The kind of a blob, and the indexes of its good and of its wrong pieces."""
        found = self._corrected(ticket, size)
        if found is None:
            return LOST, (), ()
        wrong = found[1]
        good = [index for index in sorted(self._pieces_of(ticket, size)) if index not in wrong]
        kind = WHOLE if len(good) == self._config.shelves else THIN
        return kind, tuple(good), tuple(wrong)

    def blob_octets(self, ticket, size):
        """The octets of a blob."""
        found = self._corrected(ticket, size)
        if found is None:
            raise BlobLost(f"the blob of the ticket {ticket} is lost")
        return code_of(self._config).merge(found[0], size)

    def report(self):
        """For each wanted blob its ticket, size and kind, and how many good and wrong pieces it has."""
        rows = []
        for ticket, size in self.names().wanted():
            kind, good, wrong = self.blob(ticket, size)
            rows.append((ticket, size, kind, len(good), len(wrong)))
        return rows

    def margin(self):
        """How many more shelves, whichever they are, may lose their disks."""
        margins = [good - wrong - self._config.data for _, _, _, good, wrong in self.report()]
        return min(margins, default=self._config.shelves - self._config.data)

    def healthy(self):
        """Whether every wanted blob is whole."""
        return all([row[2] == WHOLE for row in self.report()])

    def files(self):
        """For each file its path, its size, and the worst kind of a blob in it."""
        machine = self.names()
        sizes = dict(machine.wanted())
        nodes = machine.dump()[0]
        return [(path, total(parts), self._worst(parts, sizes)) for path, what, _, parts in nodes if what == "file"]

    def octets(self, path):
        """The octets of a file."""
        machine = self.names()
        parts = machine.extents(path)
        if parts is None:
            raise NoFile(f"no file is at {path}")
        sizes = dict(machine.wanted())
        return octets_of(parts, {ticket: self.blob_octets(ticket, sizes[ticket]) for ticket in tickets_of(parts)})

    def _take(self, records):
        """Note what the records of one disk say."""
        voted = {}
        for record in records:
            if record[0] == CLOSE:
                self._closings[record[1]] = record[2]
            elif record[0] == VOTE:
                # A vote that was restated counts once.
                voted[(record[1], record[2])] = record[3]
        for slot, ballot in voted:
            votes = self._votes.setdefault(slot, {})
            count = votes[ballot][1] if ballot in votes else 0
            votes[ballot] = (voted[(slot, ballot)], count + 1)

    def _recovered(self, slot):
        """The recovered command of a slot, or None."""
        if slot in self._closings:
            return self._closings[slot]
        if slot in self._votes:
            return self._votes[slot][max(self._votes[slot])][0]
        return None

    def _pieces_of(self, ticket, size):
        """The pieces of a blob, a dict from indexes to fragments."""
        pieces = {}
        for shelf in self._indexes:
            held = self._indexes[shelf].fragment(ticket)
            if held is not None and self._fits(ticket, size, shelf, held):
                pieces[held[0]] = held[1]
        return pieces

    def _fits(self, ticket, size, shelf, held):
        """Whether what a shelf holds is the fragment that belongs there."""
        index, octets = held
        return index == index_on(self._config, ticket, shelf) and len(octets) == fragment_length(self._config, size)

    def _corrected(self, ticket, size):
        """The blocks of a blob and the indexes of its wrong pieces, or None if it is lost."""
        pieces = self._pieces_of(ticket, size)
        if len(pieces) < self._config.data:
            return None
        try:
            return correct(code_of(self._config), pieces)
        except TooManyErrors:
            return None

    def _worst(self, parts, sizes):
        """The worst kind of a blob that the extents refer to."""
        kinds = [self.blob(ticket, sizes[ticket])[0] for ticket in tickets_of(parts)]
        if LOST in kinds:
            return LOST
        return THIN if THIN in kinds else WHOLE
