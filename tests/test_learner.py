"""Part 5: learning what is decided (5.16)."""

import unittest

from cairn.ballot import Learner
from support import seeded

KEEPERS = ("k0", "k1", "k2")
FIVE = ("k0", "k1", "k2", "k3", "k4")
A, B = (1, 0, 1), (2, 1, 1)
X, Y = ("x", 1), ("y", ("z",))


def told(learner, slots):
    return [learner.command(slot) for slot in slots]


class LearnerTest(unittest.TestCase):

    def test_at_first(self):
        learner = Learner(KEEPERS)
        self.assertEqual((learner.reach(), learner.top()), (0, 0))
        self.assertEqual(told(learner, (0, 1, 2, 60000)), [None] * 4)

    def test_a_closed_entry(self):
        learner = Learner(KEEPERS)
        self.assertIsNone(learner.heard("k2", [(1, (), X)]))
        self.assertEqual((learner.command(1), learner.reach(), learner.top()), (X, 1, 1))

    def test_entries_may_be_a_tuple(self):
        learner = Learner(KEEPERS)
        learner.heard("k2", ((1, (), X), (2, (), Y)))
        self.assertEqual((told(learner, (1, 2, 3)), learner.reach()), ([X, Y, None], 2))

    def test_votes_of_a_majority_with_one_ballot(self):
        learner = Learner(KEEPERS)
        learner.heard("k0", [(1, A, X)])
        self.assertEqual((learner.command(1), learner.reach(), learner.top()), (None, 0, 1))
        learner.heard("k2", [(1, A, X)])
        self.assertEqual((learner.command(1), learner.reach(), learner.top()), (X, 1, 1))

    def test_one_keeper_is_no_majority_however_often_it_speaks(self):
        learner = Learner(KEEPERS)
        for _ in range(5):
            learner.heard("k0", [(1, A, X), (1, A, X)])
        self.assertIsNone(learner.command(1))

    def test_a_single_keeper(self):
        learner = Learner(("k0",))
        learner.heard("k0", [(1, A, X)])
        self.assertEqual(learner.command(1), X)

    def test_five_keepers(self):
        learner = Learner(FIVE)
        learner.heard("k0", [(1, A, X)])
        learner.heard("k3", [(1, A, X)])
        self.assertIsNone(learner.command(1))
        learner.heard("k4", [(1, A, X)])
        self.assertEqual(learner.command(1), X)

    def test_votes_with_different_ballots(self):
        learner = Learner(KEEPERS)
        learner.heard("k0", [(1, A, X)])
        learner.heard("k1", [(1, B, X)])
        self.assertIsNone(learner.command(1))
        learner.heard("k2", [(1, B, X)])
        self.assertEqual(learner.command(1), X)

    def test_votes_for_different_slots(self):
        learner = Learner(KEEPERS)
        learner.heard("k0", [(1, A, X)])
        learner.heard("k1", [(2, A, X)])
        self.assertEqual(told(learner, (1, 2)), [None, None])

    def test_what_was_said_earlier_still_counts(self):
        learner = Learner(KEEPERS)
        learner.heard("k0", [(1, A, X)])
        # This keeper votes again with a greater ballot, before the other one says its vote.
        learner.heard("k0", [(1, B, Y)])
        learner.heard("k0", [])
        self.assertIsNone(learner.command(1))
        learner.heard("k1", [(1, A, X)])
        self.assertEqual(learner.command(1), X)

    def test_a_later_vote_counts_for_its_ballot(self):
        learner = Learner(KEEPERS)
        learner.heard("k0", [(1, A, X)])
        learner.heard("k0", [(1, B, Y)])
        learner.heard("k1", [(1, B, Y)])
        self.assertEqual(learner.command(1), Y)

    def test_strangers(self):
        learner = Learner(KEEPERS)
        for stranger in ("k3", "p0", "s0", ""):
            learner.heard(stranger, [(1, (), X), (2, A, X), (9, A, X)])
        self.assertEqual((told(learner, (1, 2, 9)), learner.reach(), learner.top()), ([None] * 3, 0, 0))
        learner.heard("k0", [(2, A, X)])
        self.assertIsNone(learner.command(2))
        self.assertEqual(learner.top(), 2)

    def test_closed(self):
        learner = Learner(KEEPERS)
        self.assertIsNone(learner.closed(2, Y))
        self.assertEqual((learner.command(2), learner.reach(), learner.top()), (Y, 0, 2))
        learner.closed(1, X)
        self.assertEqual((told(learner, (1, 2)), learner.reach(), learner.top()), ([X, Y], 2, 2))

    def test_a_known_slot_stays(self):
        learner = Learner(KEEPERS)
        learner.closed(1, X)
        learner.closed(1, X)
        for keeper in KEEPERS:
            learner.heard(keeper, [(1, A, X), (1, (), X)])
        self.assertEqual((learner.command(1), learner.reach(), learner.top()), (X, 1, 1))

    def test_the_empty_command(self):
        learner = Learner(KEEPERS)
        learner.heard("k0", [(1, (), ())])
        learner.closed(2, ())
        self.assertEqual((told(learner, (1, 2)), learner.reach()), ([(), ()], 2))

    def test_gaps_below_the_reach(self):
        learner = Learner(KEEPERS)
        for slot in (2, 3, 5):
            learner.heard("k0", [(slot, (), (slot,))])
            self.assertEqual(learner.reach(), 0)
        learner.heard("k0", [(1, (), (1,))])
        self.assertEqual((learner.reach(), learner.top()), (3, 5))
        for keeper in ("k1", "k2"):
            learner.heard(keeper, [(4, A, (4,)), (6, A, (6,)), (8, B, (8,))])
        self.assertEqual((learner.reach(), learner.top()), (6, 8))
        self.assertEqual(told(learner, range(1, 10)), [(1,), (2,), (3,), (4,), (5,), (6,), None, (8,), None])

    def test_top(self):
        learner = Learner(KEEPERS)
        learner.heard("k0", [(7, A, X), (3, B, Y)])
        self.assertEqual(learner.top(), 7)
        learner.heard("k1", [(4, (), Y)])
        self.assertEqual(learner.top(), 7)
        learner.closed(9, X)
        self.assertEqual(learner.top(), 9)

    def test_what_is_handed_in_is_not_kept(self):
        heard = [(1, A, X)]
        learner = Learner(KEEPERS)
        learner.heard("k0", heard)
        self.assertEqual(heard, [(1, A, X)])
        heard.append((1, (), Y))
        self.assertIsNone(learner.command(1))

    def test_against_the_words(self):
        rng = seeded(1)
        for keepers in (KEEPERS, FIVE):
            for _ in range(200):
                learner = Learner(keepers)
                closed, votes, top = {}, {}, 0
                for _ in range(rng.randrange(25)):
                    sender = rng.choice([*keepers, "p0"])
                    # By ballots of one slot there is one command.
                    entry = rng.choice([
                        (slot, ballot, (slot, ballot)) for slot in range(1, 6) for ballot in ((), A, B)])
                    if entry[1] == ():
                        entry = (entry[0], (), (entry[0], A))
                    learner.heard(sender, [entry])
                    if sender in keepers:
                        top = max(top, entry[0])
                        if entry[1] == ():
                            closed.setdefault(entry[0], entry[2])
                        else:
                            votes.setdefault(entry[:2], set()).add(sender)
                            if len(votes[entry[:2]]) * 2 > len(keepers):
                                closed.setdefault(entry[0], entry[2])
                reach = 0
                while reach + 1 in closed:
                    reach += 1
                self.assertEqual(told(learner, range(1, 7)), [closed.get(slot) for slot in range(1, 7)])
                self.assertEqual((learner.reach(), learner.top()), (reach, top))


if __name__ == "__main__":
    unittest.main()
