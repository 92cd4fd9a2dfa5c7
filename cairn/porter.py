"""The porter: a process that carries out the calls of clients."""

from cairn.ballot import Learner, Proposal, next_ballot
from cairn.care import Care
from cairn.commands import NOOP, as_command
from cairn.effects import sends
from cairn.job import Job
from cairn.names import Names

REPLIES = ("promise", "voted", "refuse", "decided")

# How many ticks a porter pauses when it was refused, by its number. One of the pauses is shorter,
# the other one longer than a proposal takes, so that one of two porters gets through.
PAUSES = (1, 7)
# How long a porter waits for a slot that it has heard of before it has it decided.
PATIENCE = 8
# Without a job, a porter asks for news at one tick of so many.
READ_CYCLE = 4
READ_REST = 1


class Porter:
    """A porter. What it knows is lost when it falls."""

    def __init__(self, me, config, life):
        self._config = config
        self._number = int(me[1:])
        self._life = life
        self._learner = Learner(config.keeper_names())
        self._machine = Names()
        # The slots from 1 up to this one are applied to the machine.
        self._applied = 0
        self._care = Care(config)
        self._proposal = None
        # For each slot the greatest ballot that was noted or used.
        self._ballots = {}
        self._ticks = 0
        self._pause = 0
        self._patience = 0
        # For each client its job.
        self._jobs = {}

    def call(self, client, number, op):
        """A client asks for a call."""
        if client not in self._jobs or self._jobs[client].number < number:
            self._jobs[client] = Job(self._config, client, number, op)
        elif self._jobs[client].number > number:
            return []
        return self._work()

    def letter(self, sender, letter):
        """Handle a letter."""
        effects = self._reply(sender, letter) if letter[0] in REPLIES else self._news(sender, letter)
        if sender in self._config.shelf_names():
            effects = effects + self._care.letter(sender, letter)
        return effects + self._work()

    def tick(self):
        """Some time has passed."""
        self._ticks = self._ticks + 1
        self._pause = max(self._pause - 1, 0)
        self._patience = self._patience + 1 if self._learner.top() > self._applied else 0
        effects = sends(self._unanswered())
        effects.extend(self._care.tick(self._machine))
        return effects + self._work()

    def reach(self):
        """The slot up to which all commands are applied."""
        return self._applied

    def known(self, slot):
        """The command of a slot that is applied."""
        return self._learner.command(slot)

    def jobs(self):
        """The jobs as pairs (client, number), in ascending order."""
        return [(job.client, job.number) for job in self._sorted_jobs()]

    def _sorted_jobs(self):
        return [self._jobs[client] for client in sorted(self._jobs)]

    def _reply(self, sender, letter):
        """Pass the reply of a keeper to the proposal. Returns the effects."""
        proposal = self._proposal
        if proposal is None or not proposal.letter(sender, letter):
            self._close_elsewhere(sender, letter)
            return []
        if proposal.phase == "decided":
            self._learner.closed(proposal.slot, proposal.command)
        elif proposal.phase == "lost":
            self._note_ballot(proposal.slot, proposal.beaten)
            self._pause = PAUSES[self._number]
        if proposal.phase != "voting":
            self._proposal = None
        return sends(proposal.letters())

    def _close_elsewhere(self, sender, letter):
        """Learn what is decided in a slot for which there is no proposal."""
        match letter:
            case ("decided", slot, command):
                if sender in self._config.keeper_names():
                    self._learner.closed(slot, command)

    def _news(self, sender, letter):
        """Handle a letter that is no reply to a proposal. It has no effects of its own."""
        match letter:
            case ("log", _, entries):
                self._learner.heard(sender, entries)
            case ("kept", ticket, index):
                for job in self._sorted_jobs():
                    job.kept(sender, ticket, index)
            case ("piece", ticket, index, octets):
                for job in self._sorted_jobs():
                    job.piece(sender, ticket, index, octets)
        return []

    def _unanswered(self):
        """What is sent again at a tick, as pairs (receiver, letter)."""
        jobs = self._sorted_jobs()
        letters = [] if self._proposal is None else self._proposal.letters()
        for job in jobs:
            letters.extend(job.puts())
        for job in jobs:
            letters.extend(job.gets())
        if jobs or self._ticks % READ_CYCLE == READ_REST:
            letters.extend([(keeper, ("read", self._applied + 1)) for keeper in self._config.keeper_names()])
        return letters

    def _work(self):
        """Go on as far as what is known allows. Returns the effects.

        Each step takes nothing but what the steps before it, and the letters, have brought. So the
        steps have to be gone through once only.
        """
        self._apply_known()
        effects = []
        for job in self._sorted_jobs():
            effects.extend(job.work(self._machine))
            if job.over:
                del self._jobs[job.client]
        return effects + self._propose()

    def _apply_known(self):
        """Apply all commands that can be applied to the machine."""
        while self._applied < self._learner.reach():
            self._applied = self._applied + 1
            self._machine.apply(self._applied, as_command(self._learner.command(self._applied)))
            self._patience = 0
            if self._proposal is not None and self._proposal.slot == self._applied:
                self._proposal = None

    def _propose(self):
        """Start a proposal, if there is none and something is wanted. Returns the effects."""
        if self._proposal is not None or self._pause > 0:
            return []
        command = self._wanted_command()
        if command is None:
            return []
        slot = self._applied + 1
        ballot = next_ballot(self._ballots.get(slot, ()), self._number, self._life)
        self._note_ballot(slot, ballot)
        self._proposal = Proposal(slot, ballot, command, self._config.keeper_names())
        return sends(self._proposal.letters())

    def _wanted_command(self):
        """The first command that is wanted, or None."""
        for job in self._sorted_jobs():
            command = job.wanted_command(self._machine)
            if command is not None:
                return command
        if self._patience >= PATIENCE:
            return NOOP
        return self._care.wanted_command(self._machine)

    def _note_ballot(self, slot, ballot):
        self._ballots[slot] = max(self._ballots.get(slot, ()), ballot)
