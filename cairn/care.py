"""Care: keeps every blob whole, and removes what nobody needs."""

from cairn.effects import sends
from cairn.rounds import Repair, Survey, plan

RESTING = "resting"
SURVEYING = "surveying"
MENDING = "mending"

# At which of its ticks a phase ends at the latest.
BOUNDS = {"resting": 6, "surveying": 6, "mending": 10}

# A command is wanted at one tick of so many.
COMMAND_CYCLE = 12
COMMAND_REST = 11
# For so many ticks a ticket may stay open.
PATIENCE = 40


class Care:
    """The care of a porter."""

    def __init__(self, config):
        self._config = config
        self._stage = RESTING
        self._ticks = 0
        self._stage_ticks = 0
        self._survey = Survey(config)
        # In ascending order of their tickets.
        self._repairs = []
        # For each open ticket at how many ticks, up to the last one, it was open.
        self._open_ticks = {}

    def tick(self, machine):
        """Some time has passed."""
        self._ticks = self._ticks + 1
        self._stage_ticks = self._stage_ticks + 1
        self._open_ticks = {row[0]: self._open_ticks.get(row[0], 0) + 1 for row in machine.intended()}
        drops = self._go_on(machine) if self._is_over() else []
        return sends(drops + self._letters())

    def letter(self, sender, letter):
        """Handle a letter of a shelf."""
        match letter:
            case ("have", tickets):
                # An answer leaves fewer shelves to be asked, so nothing is to be sent because of it.
                self._survey.have(sender, tickets)
            case ("piece", ticket, index, octets):
                return self._piece(sender, ticket, index, octets)
            case ("kept", ticket, index):
                for repair in self._repairs:
                    repair.kept(sender, ticket, index)
        return []

    def wanted_command(self, machine):
        """The command that the porter is to propose, or None."""
        if self._ticks % COMMAND_CYCLE != COMMAND_REST:
            return None
        tickets = list(machine.idle())
        for ticket, client, number in machine.intended():
            if machine.last_number(client) >= number or self._open_ticks.get(ticket, 0) >= PATIENCE:
                tickets.append(ticket)
        return ("forget", min(tickets)) if tickets else None

    def phase(self):
        """Whether the care is resting, surveying or mending."""
        return self._stage

    def _is_over(self):
        """Whether the phase ends at this tick."""
        if self._stage_ticks >= BOUNDS[self._stage]:
            return True
        if self._stage == SURVEYING:
            return self._survey.letters() == []
        return self._stage == MENDING and self._unfinished() == []

    def _go_on(self, machine):
        """Begin the next phase. Returns the letters that are sent once."""
        self._stage_ticks = 0
        if self._stage == RESTING:
            self._stage = SURVEYING
            self._survey = Survey(self._config)
            return []
        if self._stage == SURVEYING:
            self._stage = MENDING
            return self._begin_mending(machine)
        self._stage = RESTING
        self._repairs = []
        return []

    def _begin_mending(self, machine):
        """Start the repairs. Returns the letters that drop what nobody needs."""
        sizes = dict(machine.wanted())
        listings = {shelf: list(self._survey.listed(shelf)) for shelf in self._survey.complete()}
        repairs, drops = plan(self._config, sizes, machine.dead(), listings)
        # With more targets too few shelves would be left to read from.
        most = self._config.shelves - self._config.data
        self._repairs = [Repair(self._config, ticket, sizes[ticket], shelves[:most]) for ticket, shelves in repairs]
        return [(shelf, ("drop", ticket)) for shelf, ticket in drops]

    def _unfinished(self):
        return [repair for repair in self._repairs if not repair.done()]

    def _letters(self):
        """What is sent at each tick."""
        if self._stage == SURVEYING:
            return self._survey.letters()
        return [pair for repair in self._unfinished() for pair in repair.letters()]

    def _piece(self, sender, ticket, index, octets):
        """Pass a fragment to the repairs. Returns the effects that follow from it."""
        effects = []
        for repair in self._repairs:
            before = repair.letters()
            repair.piece(sender, ticket, index, octets)
            after = repair.letters()
            if not all([pair in before for pair in after]):
                effects.extend(sends(after))
        return effects
