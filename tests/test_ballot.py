"""Part 5: ballots, the tally and its entries (5.2 to 5.8)."""

import copy
import itertools
import unittest

from cairn.ballot import Tally, entries, majority, next_ballot
from support import seeded

A, B, C = (1, 0, 1), (1, 1, 1), (2, 0, 1)
X, Y, Z = ("x",), ("y", 2), ("z", ("a", 1))


def state(tally, slot):
    return tally.promised(slot), tally.voted(slot), tally.command(slot), tally.closed(slot)


class BallotTest(unittest.TestCase):

    def test_majority(self):
        self.assertEqual([majority(count) for count in (1, 3, 5, 7)], [1, 2, 3, 4])
        for count in range(1, 30):
            self.assertGreater(2 * majority(count), count)
            self.assertLessEqual(2 * (majority(count) - 1), count)

    def test_next_ballot(self):
        self.assertEqual(next_ballot((), 1, 7), (1, 1, 7))
        self.assertEqual(next_ballot((), 0, 1), (1, 0, 1))
        self.assertEqual(next_ballot((1, 1, 9), 0, 3), (2, 0, 3))
        self.assertEqual(next_ballot((59999, 15, 60000), 15, 60000), (60000, 15, 60000))

    def test_the_next_ballot_is_greater(self):
        rng = seeded(1)
        for _ in range(200):
            seen = (rng.randrange(1, 60000), rng.randrange(16), rng.randrange(1, 60001))
            found = next_ballot(seen, rng.randrange(16), rng.randrange(1, 60001))
            self.assertGreater(found, seen)
            self.assertIsInstance(found, tuple)
        self.assertGreater(next_ballot((), 0, 1), ())


class TallyTest(unittest.TestCase):

    def test_at_first(self):
        tally = Tally([])
        for slot in (1, 2, 60000):
            self.assertEqual(state(tally, slot), ((), (), (), False))
        self.assertEqual((tally.slots(), tally.records()), ([], []))

    def test_a_promise(self):
        tally = Tally([(1, 4, A)])
        self.assertEqual(state(tally, 4), (A, (), (), False))
        self.assertEqual(state(tally, 5), ((), (), (), False))
        tally.apply((1, 4, C))
        self.assertEqual(tally.promised(4), C)
        # A smaller ballot changes nothing.
        for ballot in (A, B, C, ()):
            tally.apply((1, 4, ballot))
            self.assertEqual(state(tally, 4), (C, (), (), False))

    def test_a_vote(self):
        tally = Tally([(2, 4, B, X)])
        self.assertEqual(state(tally, 4), (B, B, X, False))
        tally.apply((2, 4, C, Y))
        self.assertEqual(state(tally, 4), (C, C, Y, False))

    def test_a_vote_below_the_promise(self):
        tally = Tally([(1, 4, C), (2, 4, A, X)])
        self.assertEqual(state(tally, 4), (C, A, X, False))
        tally.apply((2, 4, B, Y))
        self.assertEqual(state(tally, 4), (C, B, Y, False))
        # An older vote that is entered again is the last one.
        tally.apply((2, 4, A, X))
        self.assertEqual(state(tally, 4), (C, A, X, False))

    def test_a_promise_below_the_vote(self):
        tally = Tally([(2, 4, C, X), (1, 4, A)])
        self.assertEqual(state(tally, 4), (C, C, X, False))

    def test_a_promise_keeps_the_vote(self):
        tally = Tally([(2, 4, A, X), (1, 4, B)])
        self.assertEqual(state(tally, 4), (B, A, X, False))

    def test_no_ballot(self):
        tally = Tally([(1, 4, ())])
        self.assertEqual(state(tally, 4), ((), (), (), False))
        self.assertEqual((tally.slots(), tally.records(), entries(tally, 1)), ([4], [], []))

    def test_a_closed_slot(self):
        tally = Tally([(3, 4, X)])
        self.assertEqual(state(tally, 4), ((), (), X, True))
        tally = Tally([(2, 4, A, X), (1, 4, B), (3, 4, Y)])
        self.assertEqual(state(tally, 4), (B, A, Y, True))

    def test_records_about_a_closed_slot_change_nothing(self):
        for before in ([], [(1, 4, A)], [(2, 4, B, X)]):
            tally = Tally(before + [(3, 4, Y)])
            expected = state(tally, 4)
            for record in ((1, 4, C), (2, 4, C, Z), (3, 4, Z)):
                tally.apply(record)
                self.assertEqual(state(tally, 4), expected)
            self.assertEqual(tally.slots(), [4])

    def test_nothing(self):
        tally = Tally([(0,), (1, 4, A), (0,)])
        self.assertEqual((state(tally, 4), tally.slots()), ((A, (), (), False), [4]))

    def test_apply_returns_nothing(self):
        for record in ((0,), (1, 4, A), (2, 4, A, X), (3, 4, X), (3, 4, X)):
            self.assertIsNone(Tally([]).apply(record))

    def test_slots_are_independent_and_ascend(self):
        tally = Tally([(3, 9, X), (1, 300, A), (2, 2, B, Y), (1, 9, A)])
        self.assertEqual(tally.slots(), [2, 9, 300])
        self.assertEqual(state(tally, 2), (B, B, Y, False))
        self.assertEqual(state(tally, 9), ((), (), X, True))
        self.assertEqual(state(tally, 300), (A, (), (), False))

    def test_closed_is_a_truth_value(self):
        self.assertIs(Tally([]).closed(1), False)
        self.assertIs(Tally([(3, 1, X)]).closed(1), True)

    def test_against_the_words(self):
        rng = seeded(2)
        for _ in range(300):
            tally, expected = Tally([]), {}
            for record in random_records(rng, 12):
                tally.apply(record)
                follow(expected, record)
            for slot in range(1, 5):
                self.assertEqual(state(tally, slot), tuple(expected.get(slot, [(), (), (), False])))
            self.assertEqual(tally.slots(), sorted(expected))


def follow(states, record):
    """What a record does, by the words of 5.6."""
    if record == (0,):
        return
    found = states.setdefault(record[1], [(), (), (), False])
    if found[3]:
        return
    if record[0] == 3:
        found[2:] = [record[2], True]
        return
    if record[2] > found[0]:
        found[0] = record[2]
    if record[0] == 2:
        found[1:3] = record[2:]


def random_records(rng, most):
    ballots = (A, B, C, (2, 1, 1), (3, 0, 2))
    found = []
    for _ in range(rng.randrange(most)):
        slot = rng.randrange(1, 5)
        found.append(rng.choice([
            (0,), (1, slot, rng.choice(ballots)), (2, slot, rng.choice(ballots), rng.choice([X, Y, Z])),
            (1, slot, rng.choice(ballots)), (2, slot, rng.choice(ballots), rng.choice([X, Y, Z])), (3, slot, X),
        ]))
    return found


class RecordsTest(unittest.TestCase):

    def test_each_kind(self):
        self.assertEqual(Tally([(1, 4, A)]).records(), [(1, 4, A)])
        self.assertEqual(Tally([(2, 4, A, X)]).records(), [(2, 4, A, X)])
        self.assertEqual(Tally([(3, 4, X)]).records(), [(3, 4, X)])
        self.assertEqual(Tally([(1, 4, A), (1, 4, B)]).records(), [(1, 4, B)])
        self.assertEqual(Tally([(1, 4, A), (2, 4, A, X)]).records(), [(2, 4, A, X)])
        self.assertEqual(Tally([(1, 4, A), (2, 4, B, X)]).records(), [(2, 4, B, X)])
        self.assertEqual(Tally([(2, 4, A, X), (1, 4, B)]).records(), [(2, 4, A, X), (1, 4, B)])
        self.assertEqual(Tally([(2, 4, A, X), (1, 4, B), (3, 4, Y)]).records(), [(3, 4, Y)])

    def test_the_order_of_slots(self):
        records = [(3, 7, X), (1, 300, A), (2, 2, A, Y), (1, 2, C), (1, 1, B)]
        expected = [(1, 1, B), (2, 2, A, Y), (1, 2, C), (3, 7, X), (1, 300, A)]
        self.assertEqual(Tally(records).records(), expected)

    def test_they_lead_to_the_same_state(self):
        rng = seeded(3)
        for _ in range(300):
            tally = Tally(random_records(rng, 20))
            again = Tally(tally.records())
            for slot in range(1, 5):
                if tally.closed(slot):
                    self.assertEqual(state(again, slot), ((), (), tally.command(slot), True))
                else:
                    self.assertEqual(state(again, slot), state(tally, slot))
            self.assertEqual(again.records(), tally.records())

    def test_none_may_be_left_out(self):
        rng = seeded(4)
        for _ in range(100):
            records = Tally(random_records(rng, 20)).records()
            whole = Tally(records)
            for left in range(len(records)):
                fewer = Tally(records[:left] + records[left + 1:])
                self.assertNotEqual(
                    [state(fewer, slot) for slot in range(1, 5)], [state(whole, slot) for slot in range(1, 5)])


class EntriesTest(unittest.TestCase):

    TALLY = [(3, 7, X), (1, 5, A), (2, 2, A, Y), (1, 2, C), (2, 300, B, Z), (1, 4, A), (3, 4, Z), (2, 9, A, X), (3, 9, X)]
    FOUND = [(2, A, Y), (4, (), Z), (7, (), X), (9, (), X), (300, B, Z)]

    def test_from_each_slot_on(self):
        tally = Tally(self.TALLY)
        for slot in [*range(12), 299, 300, 301, 60000]:
            expected = [entry for entry in self.FOUND if entry[0] >= slot]
            self.assertEqual(entries(tally, slot), expected)

    def test_the_empty_command(self):
        tally = Tally([(2, 2, A, ()), (3, 3, ())])
        self.assertEqual(entries(tally, 1), [(2, A, ()), (3, (), ())])
        self.assertEqual(tally.records(), [(2, 2, A, ()), (3, 3, ())])

    def test_none(self):
        self.assertEqual(entries(Tally([]), 1), [])
        self.assertEqual(entries(Tally([(1, 3, A)]), 1), [])


class ListsTest(unittest.TestCase):

    def test_the_records_that_are_handed_in(self):
        records = [(1, 4, A), (2, 5, B, X), (3, 6, Y)]
        kept = copy.deepcopy(records)
        tally = Tally(records)
        tally.apply((3, 4, X))
        self.assertEqual(records, kept)
        records.clear()
        self.assertEqual(tally.slots(), [4, 5, 6])

    def test_the_lists_that_are_handed_out(self):
        tally = Tally([(1, 4, A), (2, 5, B, X), (3, 6, Y)])
        for call in (tally.slots, tally.records, lambda: entries(tally, 1)):
            found = call()
            self.assertIsInstance(found, list)
            expected = list(found)
            found[:] = found[1:] + [99]
            self.assertEqual(call(), expected)

    def test_tallies_are_independent(self):
        for first, second in itertools.permutations([[(1, 4, A)], [(1, 4, B)]]):
            one, other = Tally(first), Tally(second)
            one.apply((3, 4, X))
            self.assertEqual(other.records(), second)


if __name__ == "__main__":
    unittest.main()
