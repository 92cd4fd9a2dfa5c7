"""Part 5: proposals (5.17 to 5.19)."""

import itertools
import unittest

from cairn.ballot import Proposal

KEEPERS = ("k0", "k1", "k2")
FIVE = ("k0", "k1", "k2", "k3", "k4")
SLOT = 4
BALLOT = (2, 1, 3)
LESS, MORE, MOST = (1, 9, 9), (2, 1, 4), (3, 0, 1)
MINE, OTHER, THIRD = ("mine", 1), ("other", 2), ("third", 3)


def new_proposal(keepers=KEEPERS):
    return Proposal(SLOT, BALLOT, MINE, keepers)


def promise(voted=(), command=(), slot=SLOT, ballot=BALLOT):
    return ("promise", slot, ballot, voted, command)


def vote(slot=SLOT, ballot=BALLOT):
    return ("voted", slot, ballot)


def refuse(promised, slot=SLOT, ballot=BALLOT):
    return ("refuse", slot, ballot, promised)


def decided(command, slot=SLOT):
    return ("decided", slot, command)


def asking():
    return new_proposal()


def voting():
    proposal = new_proposal()
    proposal.letter("k0", promise())
    proposal.letter("k1", promise())
    return proposal


def won():
    proposal = voting()
    proposal.letter("k0", vote())
    proposal.letter("k1", vote())
    return proposal


def lost():
    proposal = new_proposal()
    proposal.letter("k0", refuse(MORE))
    return proposal


STARTS = {"asking": asking, "voting": voting, "decided": won, "lost": lost}


def state(proposal):
    return (
        proposal.slot, proposal.ballot, proposal.command, proposal.phase, proposal.beaten, proposal.letters(),
    )


class ProposalTest(unittest.TestCase):

    def unchanged(self, proposal, sender, letter):
        before = state(proposal)
        with self.subTest(phase=proposal.phase, sender=sender, letter=letter):
            self.assertIs(proposal.letter(sender, letter), False)
            self.assertEqual(state(proposal), before)

    def test_at_first(self):
        proposal = new_proposal()
        self.assertEqual((proposal.slot, proposal.ballot, proposal.command), (SLOT, BALLOT, MINE))
        self.assertEqual((proposal.phase, proposal.beaten), ("asking", ()))

    def test_the_starts_of_these_tests(self):
        for phase, start in STARTS.items():
            self.assertEqual(start().phase, phase)


class LettersTest(ProposalTest):

    def test_asking(self):
        ask = ("ask", SLOT, BALLOT)
        proposal = new_proposal(FIVE)
        self.assertEqual(proposal.letters(), [(keeper, ask) for keeper in FIVE])
        proposal.letter("k3", promise())
        self.assertEqual(proposal.letters(), [(keeper, ask) for keeper in ("k0", "k1", "k2", "k4")])
        proposal.letter("k0", promise())
        self.assertEqual(proposal.letters(), [(keeper, ask) for keeper in ("k1", "k2", "k4")])

    def test_voting(self):
        found = ("vote", SLOT, BALLOT, MINE)
        proposal = new_proposal(FIVE)
        for keeper in ("k4", "k1", "k2"):
            proposal.letter(keeper, promise())
        # Also to those that have not promised.
        self.assertEqual(proposal.letters(), [(keeper, found) for keeper in FIVE])
        proposal.letter("k1", vote())
        proposal.letter("k0", vote())
        self.assertEqual(proposal.letters(), [(keeper, found) for keeper in ("k2", "k3", "k4")])

    def test_voting_for_the_command_of_a_promise(self):
        proposal = new_proposal()
        proposal.letter("k0", promise(LESS, OTHER))
        proposal.letter("k1", promise())
        self.assertEqual(proposal.letters(), [(keeper, ("vote", SLOT, BALLOT, OTHER)) for keeper in KEEPERS])

    def test_decided(self):
        self.assertEqual(won().letters(), [(keeper, ("tell", SLOT, MINE)) for keeper in KEEPERS])

    def test_lost(self):
        self.assertEqual(lost().letters(), [])

    def test_the_list_is_new(self):
        for start in STARTS.values():
            proposal = start()
            before = proposal.letters()
            proposal.letters().append("more")
            self.assertEqual(proposal.letters(), before)

    def test_the_order_of_the_keepers(self):
        keepers = ("k2", "k0", "k1")
        proposal = new_proposal(keepers)
        self.assertEqual([keeper for keeper, _ in proposal.letters()], list(keepers))
        proposal.letter("k0", promise())
        proposal.letter("k1", promise())
        self.assertEqual([keeper for keeper, _ in proposal.letters()], list(keepers))
        proposal.letter("k0", decided(MINE))
        self.assertEqual([keeper for keeper, _ in proposal.letters()], list(keepers))


class PromiseTest(ProposalTest):

    def test_a_majority(self):
        proposal = new_proposal()
        self.assertIs(proposal.letter("k2", promise()), False)
        self.assertEqual(proposal.phase, "asking")
        self.assertIs(proposal.letter("k0", promise()), True)
        self.assertEqual((proposal.phase, proposal.command), ("voting", MINE))

    def test_five_keepers(self):
        proposal = new_proposal(FIVE)
        found = [proposal.letter(keeper, promise()) for keeper in FIVE]
        self.assertEqual(found, [False, False, True, False, False])

    def test_a_single_keeper(self):
        proposal = new_proposal(("k0",))
        self.assertIs(proposal.letter("k0", promise()), True)
        self.assertIs(proposal.letter("k0", vote()), True)
        self.assertEqual(proposal.phase, "decided")

    def test_twice(self):
        proposal = new_proposal()
        proposal.letter("k0", promise())
        self.unchanged(proposal, "k0", promise())
        # The first one counts.
        self.unchanged(proposal, "k0", promise(LESS, OTHER))
        self.assertIs(proposal.letter("k1", promise()), True)
        self.assertEqual(proposal.command, MINE)

    def test_in_other_phases(self):
        for phase in ("voting", "decided", "lost"):
            for sender in KEEPERS:
                self.unchanged(STARTS[phase](), sender, promise())
                self.unchanged(STARTS[phase](), sender, promise((2, 1, 2), OTHER))

    def test_the_command_of_the_greatest_vote(self):
        votes = [((), ()), ((1, 0, 1), OTHER), ((1, 0, 2), THIRD), ((1, 1, 1), ("fourth",)), ((2, 0, 9), ("fifth",))]
        for found in itertools.product(votes, repeat=3):
            proposal = new_proposal(FIVE)
            for keeper, (voted, command) in zip(FIVE, found):
                proposal.letter(keeper, promise(voted, command))
            self.assertEqual(proposal.phase, "voting")
            self.assertEqual(proposal.command, max(found)[1] or MINE)

    def test_only_promises_count_for_the_command(self):
        proposal = new_proposal()
        proposal.letter("k0", promise(LESS, OTHER))
        # These do not count: they come from strangers, twice, or are about other slots and ballots.
        proposal.letter("p0", promise((2, 1, 2), THIRD))
        proposal.letter("k0", promise((2, 1, 2), THIRD))
        proposal.letter("k1", promise((2, 1, 2), THIRD, slot=SLOT + 1))
        proposal.letter("k1", promise((2, 1, 2), THIRD, ballot=LESS))
        proposal.letter("k1", promise())
        self.assertEqual((proposal.phase, proposal.command), ("voting", OTHER))

    def test_a_vote_for_the_empty_command(self):
        proposal = new_proposal()
        proposal.letter("k0", promise(LESS, ()))
        proposal.letter("k1", promise())
        self.assertEqual((proposal.phase, proposal.command), ("voting", ()))

    def test_the_command_stays_until_voting(self):
        proposal = new_proposal()
        proposal.letter("k0", promise(LESS, OTHER))
        self.assertEqual(proposal.command, MINE)


class VotedTest(ProposalTest):

    def test_a_majority(self):
        proposal = voting()
        self.assertIs(proposal.letter("k2", vote()), False)
        self.assertEqual(proposal.phase, "voting")
        self.assertIs(proposal.letter("k1", vote()), True)
        self.assertEqual((proposal.phase, proposal.command), ("decided", MINE))

    def test_twice(self):
        proposal = voting()
        proposal.letter("k2", vote())
        self.unchanged(proposal, "k2", vote())
        self.assertEqual(proposal.phase, "voting")

    def test_five_keepers(self):
        proposal = new_proposal(FIVE)
        for keeper in FIVE:
            proposal.letter(keeper, promise())
        found = [proposal.letter(keeper, vote()) for keeper in FIVE]
        self.assertEqual(found, [False, False, True, False, False])

    def test_in_other_phases(self):
        for phase in ("asking", "decided", "lost"):
            for sender in KEEPERS:
                self.unchanged(STARTS[phase](), sender, vote())
        # A vote that came while asking does not count later.
        proposal = new_proposal()
        proposal.letter("k0", vote())
        proposal.letter("k0", promise())
        proposal.letter("k1", promise())
        proposal.letter("k1", vote())
        self.assertEqual(proposal.phase, "voting")


class RefuseTest(ProposalTest):

    def test_a_greater_ballot(self):
        for phase in ("asking", "voting"):
            for promised in (MORE, MOST, (60000, 0, 1)):
                proposal = STARTS[phase]()
                command = proposal.command
                self.assertIs(proposal.letter("k2", refuse(promised)), True)
                self.assertEqual((proposal.phase, proposal.beaten, proposal.command), ("lost", promised, command))
                self.assertEqual(proposal.letters(), [])

    def test_a_smaller_or_equal_ballot(self):
        for phase in STARTS:
            for promised in (LESS, BALLOT, ()):
                self.unchanged(STARTS[phase](), "k2", refuse(promised))

    def test_later_ones(self):
        proposal = lost()
        for promised in (MOST, MORE, LESS, (9, 9, 9)):
            self.unchanged(proposal, "k1", refuse(promised))
        self.assertEqual(proposal.beaten, MORE)

    def test_when_decided(self):
        self.unchanged(won(), "k2", refuse(MOST))
        self.assertEqual(won().beaten, ())

    def test_promises_and_votes_before_it(self):
        proposal = new_proposal()
        proposal.letter("k0", promise())
        proposal.letter("k1", refuse(MORE))
        self.unchanged(proposal, "k2", promise())
        proposal = voting()
        proposal.letter("k0", vote())
        proposal.letter("k2", refuse(MORE))
        self.unchanged(proposal, "k1", vote())


class DecidedTest(ProposalTest):

    def test_in_each_phase(self):
        for phase in ("asking", "voting", "lost"):
            for command in (MINE, OTHER):
                proposal = STARTS[phase]()
                beaten = proposal.beaten
                self.assertIs(proposal.letter("k2", decided(command)), True)
                self.assertEqual((proposal.phase, proposal.command, proposal.beaten), ("decided", command, beaten))
                self.assertEqual(proposal.letters(), [(keeper, ("tell", SLOT, command)) for keeper in KEEPERS])
        self.unchanged(won(), "k2", decided(MINE))
        self.unchanged(won(), "k2", decided(OTHER))


class OthersTest(ProposalTest):

    def test_strangers(self):
        for start in STARTS.values():
            for stranger in ("k3", "p0", "s0", ""):
                for letter in (promise(), vote(), refuse(MOST), decided(OTHER)):
                    self.unchanged(start(), stranger, letter)

    def test_other_slots(self):
        for start in STARTS.values():
            for slot in (SLOT - 1, SLOT + 1, 1, 60000):
                for letter in (
                    promise(slot=slot), vote(slot=slot), refuse(MOST, slot=slot), decided(OTHER, slot=slot),
                ):
                    self.unchanged(start(), "k2", letter)

    def test_other_ballots(self):
        for start in STARTS.values():
            for ballot in (LESS, MORE, MOST, ()):
                for letter in (promise(ballot=ballot), vote(ballot=ballot), refuse(MOST, ballot=ballot)):
                    self.unchanged(start(), "k2", letter)

    def test_other_words(self):
        for start in STARTS.values():
            for letter in (
                ("log", SLOT, ()), ("tell", SLOT, OTHER), ("ask", SLOT, MOST), ("vote", SLOT, BALLOT, MINE),
                ("kept", SLOT, 1), ("promises", SLOT, BALLOT, (), ()), ("",),
            ):
                self.unchanged(start(), "k2", letter)


if __name__ == "__main__":
    unittest.main()
