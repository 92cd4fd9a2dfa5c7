"""Ballots: what keepers keep about the log, what is learned from them, and proposals."""

NOTHING = 0
PROMISE = 1
VOTE = 2
CLOSE = 3

# What is kept of a slot: the promised ballot, the ballot of the last vote, the command, and whether
# the slot is closed.
UNTOUCHED = ((), (), (), False)


def majority(count):
    """The least number that is more than half of the count."""
    return count // 2 + 1


def next_ballot(seen, porter, life):
    """A ballot of the porter that is greater than the one seen."""
    if seen == ():
        return (1, porter, life)
    return (seen[0] + 1, porter, life)


def entries(tally, slot):
    """What a keeper says of the slots from this one on that are closed or have a vote."""
    found = []
    for known in tally.slots():
        if known >= slot and tally.closed(known):
            found.append((known, (), tally.command(known)))
        elif known >= slot and tally.voted(known) != ():
            found.append((known, tally.voted(known), tally.command(known)))
    return found


class Tally:
    """The state that the records of a keeper lead to."""

    def __init__(self, records):
        self._states = {}
        for record in records:
            self.apply(record)

    def apply(self, record):
        """Take one more record."""
        kind = record[0]
        if kind == NOTHING:
            return
        slot = record[1]
        promised, voted, command, closed = self._state_of(slot)
        if kind == CLOSE and not closed:
            command, closed = record[2], True
        elif not closed:
            promised = max(promised, record[2])
            if kind == VOTE:
                voted, command = record[2], record[3]
        self._states[slot] = (promised, voted, command, closed)

    def promised(self, slot):
        """The promised ballot."""
        return self._state_of(slot)[0]

    def voted(self, slot):
        """The ballot of the last vote."""
        return self._state_of(slot)[1]

    def command(self, slot):
        """The command of the last vote, or the decided one."""
        return self._state_of(slot)[2]

    def closed(self, slot):
        """Whether the slot is closed."""
        return self._state_of(slot)[3]

    def slots(self):
        """The slots that some record is about, in ascending order."""
        return sorted(self._states)

    def records(self):
        """The fewest records that lead to this state, but for the ballots of closed slots."""
        found = []
        for slot in self.slots():
            promised, voted, command, closed = self._states[slot]
            if closed:
                found.append((CLOSE, slot, command))
            elif voted != ():
                found.append((VOTE, slot, voted, command))
            if not closed and promised > voted:
                found.append((PROMISE, slot, promised))
        return found

    def copied(self):
        """A tally with the same state."""
        other = Tally([])
        other._states = {slot: self._states[slot] for slot in self._states}
        return other

    def _state_of(self, slot):
        return self._states.get(slot, UNTOUCHED)


class Learner:
    """What keepers have said about the log."""

    def __init__(self, keepers):
        self._keepers = tuple(keepers)
        # For each known slot its command.
        self._known = {}
        # For each slot and ballot the keepers that said that they voted so.
        self._voters = {}
        self._known_up_to = 0
        self._greatest = 0

    def heard(self, sender, entries):
        """Take the entries of a log letter."""
        if sender not in self._keepers:
            return
        for slot, ballot, command in entries:
            self._greatest = max(self._greatest, slot)
            if ballot == ():
                self.closed(slot, command)
            else:
                self._count_vote(sender, slot, ballot, command)

    def closed(self, slot, command):
        """The slot is closed with the command."""
        self._greatest = max(self._greatest, slot)
        if slot not in self._known:
            self._known[slot] = command
        while self._known_up_to + 1 in self._known:
            self._known_up_to = self._known_up_to + 1

    def command(self, slot):
        """The command of a known slot, or None."""
        return self._known.get(slot)

    def reach(self):
        """The slot up to which all are known."""
        return self._known_up_to

    def top(self):
        """The greatest slot that was heard of."""
        return self._greatest

    def _count_vote(self, sender, slot, ballot, command):
        """A keeper has voted for the command with the ballot."""
        voters = self._voters.setdefault((slot, ballot), {})
        voters[sender] = True
        if len(voters) >= majority(len(self._keepers)):
            self.closed(slot, command)


class Proposal:
    """An attempt to get a command decided in a slot."""

    def __init__(self, slot, ballot, command, keepers):
        self.slot = slot
        self.ballot = ballot
        self.command = command
        self.phase = "asking"
        self.beaten = ()
        self._keepers = tuple(keepers)
        # For each keeper that has promised the ballot and the command of its last vote.
        self._promises = {}
        self._votes = {}

    def letters(self):
        """The letters to send now, as pairs (keeper, letter)."""
        if self.phase == "asking":
            letter = ("ask", self.slot, self.ballot)
            return [(keeper, letter) for keeper in self._keepers if keeper not in self._promises]
        if self.phase == "voting":
            letter = ("vote", self.slot, self.ballot, self.command)
            return [(keeper, letter) for keeper in self._keepers if keeper not in self._votes]
        if self.phase == "decided":
            return [(keeper, ("tell", self.slot, self.command)) for keeper in self._keepers]
        return []

    def letter(self, sender, letter):
        """Handle a reply. Returns whether the phase has changed."""
        if sender not in self._keepers:
            return False
        before = self.phase
        match letter:
            case ("promise", slot, ballot, voted, command):
                if self._is_mine(slot, ballot):
                    self._promise(sender, voted, command)
            case ("voted", slot, ballot):
                if self._is_mine(slot, ballot):
                    self._vote(sender)
            case ("refuse", slot, ballot, promised):
                if self._is_mine(slot, ballot):
                    self._refuse(promised)
            case ("decided", slot, command):
                if slot == self.slot:
                    self._decide(command)
        return self.phase != before

    def _is_mine(self, slot, ballot):
        return slot == self.slot and ballot == self.ballot

    def _promise(self, sender, voted, command):
        if self.phase != "asking" or sender in self._promises:
            return
        self._promises[sender] = (voted, command)
        if len(self._promises) >= majority(len(self._keepers)):
            self.phase = "voting"
            # The command of the greatest vote may be decided already, so no other one may be.
            last = max(list(self._promises.values()), key=lambda promise: promise[0])
            if last[0] != ():
                self.command = last[1]

    def _vote(self, sender):
        if self.phase == "voting":
            self._votes[sender] = True
            if len(self._votes) >= majority(len(self._keepers)):
                self.phase = "decided"

    def _refuse(self, promised):
        if self.phase in ("asking", "voting") and promised > self.ballot:
            self.beaten = max(self.beaten, promised)
            self.phase = "lost"

    def _decide(self, command):
        if self.phase != "decided":
            self.command = command
            self.phase = "decided"
