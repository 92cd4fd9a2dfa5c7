"""Part 5: keepers and proposals that meet (5.20, 5.21)."""

import unittest

from cairn.ballot import Learner, Proposal, majority, next_ballot
from keepers import Home, new_keeper
from support import seeded

KEEPERS = ("k0", "k1", "k2")


class World:
    """Keepers, proposals, and letters that are lost, doubled and late."""

    def __init__(self, test, rng, keepers, sectors):
        self.test = test
        self.rng = rng
        self.homes = {keeper: Home(sectors) for keeper in keepers}
        self.names = tuple(keepers)
        self.proposals = {}
        self.letters = []
        self.seen = {}
        self.lives = 0
        # The durable votes of each slot and ballot, and the decided commands.
        self.votes = {}
        self.chosen = {}
        self.decided = {}
        self.offered = {}
        self.learner = Learner(self.names)

    def propose(self, slot):
        """A new proposal, with a ballot that nobody has used."""
        self.lives += 1
        porter = self.rng.randrange(2)
        seen = self.seen.get(slot, ()) if self.rng.randrange(3) else ()
        name = f"p{porter}.{self.lives}"
        command = ("c", slot, self.lives)
        ballot = next_ballot(seen, porter, self.lives)
        self.proposals[name] = Proposal(slot, ballot, command, self.names)
        self.offered.setdefault(slot, []).append(command)
        self.send(name)

    def send(self, name):
        self.letters += [(name, to, letter) for to, letter in self.proposals[name].letters()]

    def take(self, keeper, letters):
        self.letters += [(keeper, to, letter) for to, letter in letters]

    def deliver(self, index):
        sender, to, letter = self.letters[index]
        if to in self.homes:
            self.take(to, self.homes[to].letter(sender, letter))
        elif to in self.proposals:
            self.reply(to, sender, letter)
        elif to == "learner":
            self.learner.heard(sender, letter[2])

    def reply(self, name, sender, letter):
        proposal = self.proposals[name]
        before = proposal.phase
        changed = proposal.letter(sender, letter)
        self.test.assertEqual(changed, proposal.phase != before)
        if changed:
            self.send(name)
            slot = proposal.slot
            if proposal.phase == "voting" and slot in self.chosen:
                ballot, command = self.chosen[slot]
                if proposal.ballot > ballot:
                    self.test.assertEqual(proposal.command, command)
            if proposal.phase == "decided":
                self.decide(slot, proposal.command)
            if proposal.phase == "lost":
                self.seen[slot] = max(self.seen.get(slot, ()), proposal.beaten)

    def decide(self, slot, command):
        self.test.assertEqual(self.decided.setdefault(slot, command), command)
        self.test.assertIn(command, self.offered[slot])
        if slot in self.chosen:
            self.test.assertEqual(self.chosen[slot][1], command)

    def note_votes(self, keeper):
        """What is durable at a keeper now."""
        home = self.homes[keeper]
        tally = new_keeper(home.sectors, dict(home.disk.stored)).tally()
        for slot in tally.slots():
            if tally.voted(slot) and not tally.closed(slot):
                voters = self.votes.setdefault((slot, tally.voted(slot)), set())
                voters.add(keeper)
                if len(voters) >= majority(len(self.names)) and slot not in self.chosen:
                    self.chosen[slot] = (tally.voted(slot), tally.command(slot))

    def step(self, slots):
        rng = self.rng
        choice = rng.randrange(100)
        keeper = rng.choice(self.names)
        if choice < 3:
            if len(self.proposals) < 5 * slots:
                self.propose(rng.randrange(1, slots + 1))
        elif choice < 60 and self.letters:
            # Any letter, so that some are late and exchanged.
            index = rng.randrange(len(self.letters))
            self.deliver(index)
            if rng.randrange(4):
                del self.letters[index]
        elif choice < 64 and self.letters:
            del self.letters[rng.randrange(len(self.letters))]
        elif choice < 70 and self.proposals:
            self.send(rng.choice(sorted(self.proposals)))
        elif choice < 94:
            self.take(keeper, self.homes[keeper].finish())
            self.note_votes(keeper)
        elif choice < 96:
            self.letters.append(("learner", keeper, ("read", 1)))
        elif choice < 98:
            self.homes[keeper].disk.random_crash(rng)
            self.homes[keeper].boot()
            self.note_votes(keeper)

    def check_learner(self, slots):
        for slot in range(1, slots + 1):
            command = self.learner.command(slot)
            if command is not None:
                self.decide(slot, command)


class MeetingTest(unittest.TestCase):

    def live(self, seed, keepers, sectors, slots, steps):
        world = World(self, seeded(seed), keepers, sectors)
        for _ in range(slots):
            world.propose(1)
        for _ in range(steps):
            world.step(slots)
        world.check_learner(slots)
        return world

    def test_random_worlds(self):
        decided = changed = 0
        for seed in range(100):
            world = self.live(seed, KEEPERS, 96, 2, 400)
            decided += len(world.decided)
            changed += sum(
                proposal.phase in ("voting", "decided") and proposal.command[2] != int(name.partition(".")[2])
                for name, proposal in world.proposals.items()
            )
        # There were decisions, and proposals that took over another command.
        self.assertGreater(decided, 150)
        self.assertGreater(changed, 100)

    def test_five_keepers(self):
        decided = 0
        for seed in range(1000, 1030):
            decided += len(self.live(seed, ("k0", "k1", "k2", "k3", "k4"), 96, 1, 600).decided)
        self.assertGreater(decided, 20)

    def test_small_disks(self):
        decided = 0
        for seed in range(2000, 2040):
            decided += len(self.live(seed, KEEPERS, 32, 1, 400).decided)
        self.assertGreater(decided, 20)

    def test_left_in_peace_a_proposal_is_decided(self):
        for keepers in (("k0",), KEEPERS, ("k0", "k1", "k2", "k3", "k4")):
            world = World(self, seeded(1), keepers, 64)
            world.propose(1)
            while world.letters:
                world.deliver(0)
                del world.letters[0]
                for keeper in keepers:
                    world.take(keeper, world.homes[keeper].finish())
            self.assertEqual(world.decided, {1: ("c", 1, 1)})
            for home in world.homes.values():
                self.assertTrue(home.keeper.tally().closed(1))


class ExampleTest(unittest.TestCase):

    def setUp(self):
        self.homes = {keeper: Home(64) for keeper in KEEPERS}
        self.first = Proposal(1, (1, 0, 1), (7,), KEEPERS)
        self.second = Proposal(1, (2, 1, 1), (9,), KEEPERS)

    def carry(self, proposal, keeper):
        """The letter of a proposal to a keeper, and the reply."""
        letter = dict(proposal.letters())[keeper]
        replies = self.homes[keeper].letter("p", letter) + self.homes[keeper].finish()
        self.assertEqual(len(replies), 1)
        proposal.letter(keeper, replies[0][1])
        return replies[0][1]

    def start(self):
        for keeper in ("k0", "k1"):
            self.carry(self.first, keeper)
        self.assertEqual(self.first.phase, "voting")
        self.lost_letter = dict(self.first.letters())["k1"]
        self.assertEqual(self.carry(self.first, "k0"), ("voted", 1, (1, 0, 1)))

    def test_it_as_it_stands(self):
        self.start()
        self.carry(self.second, "k1")
        self.assertEqual(self.carry(self.second, "k2"), ("promise", 1, (2, 1, 1), (), ()))
        self.assertEqual((self.second.phase, self.second.command), ("voting", (9,)))
        self.carry(self.second, "k1")
        self.assertEqual(self.second.phase, "voting")
        self.carry(self.second, "k2")
        self.assertEqual((self.second.phase, self.second.command), ("decided", (9,)))
        replies = self.homes["k1"].letter("p", self.lost_letter)
        self.assertEqual(replies, [("p", ("refuse", 1, (1, 0, 1), (2, 1, 1)))])
        self.assertTrue(self.first.letter("k1", replies[0][1]))
        self.assertEqual((self.first.phase, self.first.beaten), ("lost", (2, 1, 1)))

    def test_if_the_others_had_promised(self):
        self.start()
        self.assertEqual(self.carry(self.second, "k0"), ("promise", 1, (2, 1, 1), (1, 0, 1), (7,)))
        self.carry(self.second, "k1")
        self.assertEqual((self.second.phase, self.second.command), ("voting", (7,)))
        self.assertEqual(dict(self.second.letters())["k2"], ("vote", 1, (2, 1, 1), (7,)))


if __name__ == "__main__":
    unittest.main()
