"""Part 5: diaries that do not fill up, and crashes (5.11, 5.14)."""

import copy
import itertools
import unittest

from cairn.ballot import Tally
from cairn.errors import DiaryFull
from cairn.pack import pack
from keepers import SYNC, Home, Paper, disk_of, new_keeper, reply, use
from support import seeded

A, B, C = (1, 0, 1), (1, 1, 1), (2, 0, 1)
X = ("x",)


class Model:
    """A keeper by the words of part 5, over a diary of its own."""

    def __init__(self, sectors, stored):
        self.paper = Paper(sectors, stored)
        self.tally = Tally(self.paper.records())
        self.unfinished = []
        self.restated = 0
        self.full = 0

    def letter(self, sender, letter):
        word, slot = letter[:2]
        tally, record, answer = self.tally, None, None
        if word in ("ask", "vote") and tally.closed(slot):
            answer = ("decided", slot, tally.command(slot))
        elif word in ("ask", "vote") and letter[2] < tally.promised(slot):
            answer = ("refuse", slot, letter[2], tally.promised(slot))
        elif word == "ask":
            record = (1, slot, letter[2]) if letter[2] != tally.promised(slot) else None
            answer = ("promise", slot, letter[2], tally.voted(slot), tally.command(slot))
        elif word == "vote":
            record = (2, *letter[1:]) if letter[2] != tally.voted(slot) else None
            answer = ("voted", slot, letter[2])
        elif word == "tell":
            record = (3, slot, letter[2]) if not tally.closed(slot) else None
        elif word == "read":
            known = [found for found in tally.slots() if found >= slot]
            answer = ("log", slot, tuple(
                (found, () if tally.closed(found) else tally.voted(found), tally.command(found))
                for found in known if tally.closed(found) or tally.voted(found)
            ))
        try:
            effects = self.enter(record) if record else []
        except DiaryFull:
            self.full += 1
            return []
        if answer:
            if not self.unfinished:
                return effects + [reply(*answer, to=sender)]
            self.unfinished[-1].append(reply(*answer, to=sender))
        return effects

    def enter(self, record):
        restated = self.tally.records()
        if self.paper.due(restated, record):
            effects = self.paper.restating(restated, record)
            self.restated += 1
        else:
            effects = self.paper.entered(record)
        self.tally.apply(record)
        self.unfinished.append([])
        return effects

    def synced(self):
        if not self.unfinished:
            return []
        self.paper.diary.synced()
        return self.unfinished.pop(0)


def random_letter(rng, slots, long, step):
    """A letter; the later the step is, the greater are the ballots."""
    slot = rng.randrange(1, slots + 1)
    ballot = (1 + step // 3 + rng.randrange(3), rng.randrange(2), 1)
    command = (slot, ballot, "x" * (slot * long))
    if rng.randrange(30) == 0:
        return ("tell", slot, (slot, "decided"))
    return rng.choice([("ask", slot, ballot), ("vote", slot, ballot, command), ("ask", slot, ballot), ("read", slot)])


class WordsTest(unittest.TestCase):

    def test_random_letters(self):
        rng = seeded(1)
        restated = full = 0
        for sectors in (4, 5, 7, 8, 12, 16, 24, 40, 64):
            for _ in range(30):
                keeper, model = new_keeper(sectors), Model(sectors, {})
                slots = rng.randrange(1, 5)
                for step in range(80):
                    if rng.randrange(3):
                        letter = random_letter(rng, slots, 10, step)
                        sender = rng.choice(["p0", "p1"])
                        self.assertEqual(keeper.letter(sender, letter), model.letter(sender, letter))
                    else:
                        self.assertEqual(keeper.synced(), model.synced())
                    self.assertEqual(keeper.tally().records(), model.tally.records())
                restated += model.restated
                full += model.full
        # Both have been tried often.
        self.assertGreater(restated, 100)
        self.assertGreater(full, 100)


class WhenTest(unittest.TestCase):
    """Each condition of 5.14 at its edge."""

    def effects(self, sectors, records, letter):
        """What a keeper writes for a letter, and what it would write if it restated, and if not."""
        stored = disk_of(*records, sectors=sectors)
        restated, record = Tally(records).records(), {"ask": 1, "vote": 2, "tell": 3}[letter[0]]
        effects = new_keeper(sectors, stored).letter("p0", letter)
        free = Paper(sectors, stored).diary.free()
        figures = (free, use(restated), use([(record, *letter[1:])]))
        return effects, figures, Paper(sectors, stored), restated, (record, *letter[1:])

    def restates(self, *arguments):
        effects, figures, paper, restated, record = self.effects(*arguments)
        self.assertEqual(effects, paper.restating(restated, record))
        return figures

    def enters(self, *arguments):
        effects, figures, paper, _, record = self.effects(*arguments)
        self.assertEqual(effects, paper.entered(record))
        return figures

    def refuses(self, *arguments):
        effects, figures, _, _, _ = self.effects(*arguments)
        self.assertEqual(effects, [])
        return figures

    def test_fewer_than_half_are_free(self):
        # Each promise takes two sectors.
        asked = [(1, 1, (k, 0, 1)) for k in range(1, 100)]
        letter = ("ask", 1, (100, 0, 1))
        self.assertEqual(self.enters(20, asked[:5], letter), (10, 2, 2))
        self.assertEqual(self.restates(20, asked[:6], letter), (8, 2, 2))
        self.assertEqual(self.enters(21, asked[:5], letter), (11, 2, 2))
        self.assertEqual(self.restates(21, [*asked[:5], (0,)], letter), (10, 2, 2))

    def test_there_is_room(self):
        asked = [(1, 1, (k, 0, 1)) for k in range(1, 100)]
        letter = ("ask", 1, (100, 0, 1))
        self.assertEqual(self.restates(21, asked[:8], letter), (5, 2, 2))
        self.assertEqual(self.enters(20, asked[:8], letter), (4, 2, 2))
        self.assertEqual(self.refuses(20, [*asked[:9], (0,)], letter), (1, 2, 2))
        # The use of the new record counts.
        long = ("tell", 1, ("x" * 20,))
        self.assertEqual(self.enters(21, asked[:8], long), (5, 2, 3))
        self.assertEqual(self.restates(22, asked[:8], long), (6, 2, 3))

    def test_twice_the_use_is_at_most_what_is_taken(self):
        # Three slots with promises, each of two sectors.
        asked = [(1, slot, A) for slot in (1, 2, 3)]
        letter = ("ask", 4, A)
        self.assertEqual(self.enters(11, asked, letter), (5, 6, 2))
        more = asked + [(1, slot, B) for slot in (1, 2, 3)] + [(0,)]
        self.assertEqual(self.enters(22, more, letter), (9, 6, 2))
        self.assertEqual(self.restates(24, more + [(0,)], letter), (10, 6, 2))
        self.assertEqual(self.enters(26, asked + [(1, slot, B) for slot in (1, 2, 3)], letter), (14, 6, 2))

    def test_a_record_that_no_diary_takes(self):
        asked = [(1, 1, (k, 0, 1)) for k in range(1, 200)]
        keeper = new_keeper(200, disk_of(*asked[:70], sectors=200))
        self.assertEqual(keeper.letter("p0", ("tell", 1, ("x" * 600,))), [])
        # Nothing was restated for it: the next record is.
        paper = Paper(200, disk_of(*asked[:70], sectors=200))
        expected = paper.restating([asked[69]], asked[70])
        self.assertEqual(keeper.letter("p0", ("ask", *asked[70][1:])), expected)

    def test_the_longest_record(self):
        asked = [(1, 1, (k, 0, 1)) for k in range(1, 200)]
        letter = ("tell", 1, ("x" * 587,))
        self.assertEqual(len(pack((3, *letter[1:]))), 600)
        self.assertEqual(self.restates(80, asked[:21], letter), (38, 2, 30))

    def test_what_changes_nothing_restates_nothing(self):
        asked = [(1, 1, (k, 0, 1)) for k in range(1, 7)]
        keeper = new_keeper(20, disk_of(*asked, sectors=20))
        self.assertEqual(keeper.letter("p0", ("ask", 1, (6, 0, 1))), [reply("promise", 1, (6, 0, 1), (), ())])
        self.assertEqual(keeper.letter("p0", ("read", 1)), [reply("log", 1, ())])


class WritesTest(unittest.TestCase):

    RECORDS = [
        (1, 1, A), (2, 1, A, X), (1, 1, B), (3, 2, X), *[(1, 4, (k, 0, 1)) for k in range(1, 9)], (2, 3, C, ("late",)),
        (1, 9, A), (3, 9, X),
    ]
    RESTATED = [(2, 1, A, X), (1, 1, B), (3, 2, X), (2, 3, C, ("late",)), (1, 4, (8, 0, 1)), (3, 9, X)]
    # There is just room for the restated records, the one behind them, and the new one.
    SECTORS = use(RECORDS) + use(RESTATED) + 1 + 2
    LETTER = ("ask", 4, (9, 0, 1))

    def test_restated_records_and_the_one_behind_them(self):
        stored = disk_of(*self.RECORDS, sectors=self.SECTORS)
        keeper, paper = new_keeper(self.SECTORS, stored), Paper(self.SECTORS, stored)
        self.assertEqual(keeper.tally().records(), self.RESTATED)
        effects = keeper.letter("p0", self.LETTER)
        expected = []
        for record in self.RESTATED:
            expected += paper.diary.enter(pack(record))[1]
        paper.diary.forget(len(self.RECORDS) + 1)
        for record in ((0,), (1, *self.LETTER[1:])):
            expected += paper.diary.enter(pack(record))[1]
        self.assertEqual(effects, expected + [SYNC])
        # The old records make room when the sync has finished.
        self.assertEqual(paper.diary.free(), 0)
        paper.diary.flush()
        paper.diary.synced()
        self.assertEqual(paper.diary.free(), use(self.RECORDS))
        self.assertEqual(keeper.synced(), [reply("promise", 4, (9, 0, 1), (), ())])

    def test_the_state_stays(self):
        stored = disk_of(*self.RECORDS, sectors=self.SECTORS)
        keeper = new_keeper(self.SECTORS, stored)
        effects = keeper.letter("p0", self.LETTER)
        tally = keeper.tally()
        # Also the ballots of closed slots, as long as the keeper runs.
        self.assertEqual((tally.promised(9), tally.closed(9)), (A, True))
        again = new_keeper(self.SECTORS, stored | {effect[1]: effect[2] for effect in effects[:-1]})
        self.assertEqual(again.tally().records(), tally.records())
        self.assertEqual((again.tally().promised(9), again.tally().closed(9)), ((), True))


class NeverFullTest(unittest.TestCase):

    def test_one_slot_in_a_small_diary(self):
        # Promises and votes for one slot: restated they take at most 4 sectors.
        for sectors in (20, 21, 24, 31, 32, 64):
            home = Home(sectors)
            for k in range(1, 400):
                ballot = (k, k % 2, 1)
                self.assertEqual(home.letter("p0", ("ask", 1, ballot)), [])
                letters = home.finish()
                self.assertEqual([letter[:3] for _, letter in letters], [("promise", 1, ballot)])
                if k % 3 == 0:
                    self.assertEqual(home.letter("p1", ("vote", 1, ballot, X)), [])
                    self.assertEqual(home.finish(), [("p1", ("voted", 1, ballot))])
                if k % 50 == 0:
                    home.disk.crash([])
                    home.boot()
            self.assertEqual(home.keeper.tally().promised(1), (399, 1, 1))

    def test_very_few_sectors(self):
        # With fewer ones there is no room to restate a single promise when fewer than half are free.
        for sectors in (13, 14, 15, 16):
            home = Home(sectors)
            for k in range(1, 300):
                self.assertEqual(home.letter("p0", ("ask", 1, (k, 0, 1))), [])
                self.assertEqual(len(home.finish()), 1)
            home.letter("p0", ("tell", 1, X))
            home.finish()
            self.assertTrue(home.keeper.tally().closed(1))

    def test_many_slots_that_close(self):
        home = Home(256)
        for slot in range(1, 30):
            for k in range(1, 8):
                self.assertEqual(home.letter("p0", ("ask", slot, (k, 0, 1))), [])
                self.assertEqual(len(home.finish()), 1)
                self.assertEqual(home.letter("p0", ("vote", slot, (k, 0, 1), (slot,))), [])
                self.assertEqual(home.finish(), [("p0", ("voted", slot, (k, 0, 1)))])
            home.letter("p0", ("tell", slot, (slot,)))
            home.finish()
        home.disk.crash([])
        home.boot()
        self.assertEqual(home.keeper.tally().records(), [(3, slot, (slot,)) for slot in range(1, 30)])


class Witness:
    """What has left a keeper and must not be lowered."""

    def __init__(self):
        self.promised = {}
        self.voted = {}
        self.closed = {}

    def promise(self, slot, ballot):
        self.promised[slot] = max(self.promised.get(slot, ()), ballot)

    def vote(self, slot, ballot, command):
        self.promise(slot, ballot)
        if ballot > self.voted.get(slot, ((), None))[0]:
            self.voted[slot] = (ballot, command)

    def hear(self, letters):
        for _, letter in letters:
            word, slot = letter[:2]
            if word == "promise":
                self.promise(slot, letter[2])
                if letter[3]:
                    self.vote(slot, *letter[3:])
            elif word == "voted":
                # The commands of random letters name their ballots.
                self.promise(slot, letter[2])
                if letter[2] > self.voted.get(slot, ((), None))[0]:
                    self.voted[slot] = (letter[2], None)
            elif word == "refuse":
                self.promise(slot, letter[3])
            elif word == "decided":
                self.closed[slot] = letter[2]
            elif word == "log":
                for entry in letter[2]:
                    if entry[1]:
                        self.vote(*entry)
                    else:
                        self.closed[entry[0]] = entry[2]

    def check(self, test, tally):
        for slot, command in self.closed.items():
            test.assertTrue(tally.closed(slot))
            test.assertEqual(tally.command(slot), command)
        for slot, ballot in self.promised.items():
            if not tally.closed(slot):
                test.assertGreaterEqual(tally.promised(slot), ballot)
        for slot, (ballot, command) in self.voted.items():
            if not tally.closed(slot):
                test.assertGreaterEqual(tally.voted(slot), ballot)
                if tally.voted(slot) == ballot and command:
                    test.assertEqual(tally.command(slot), command)


class CrashTest(unittest.TestCase):

    def test_random_lives(self):
        rng = seeded(2)
        restated = 0
        for sectors in (13, 16, 24, 40):
            for _ in range(60):
                home, witness = Home(sectors), Witness()
                slots = rng.randrange(1, 4)
                for life in range(6):
                    for step in range(rng.randrange(40)):
                        if rng.randrange(5) < 3:
                            effects = home.keeper.letter("p0", random_letter(rng, slots, 3, 10 * life + step))
                            restated += len(effects) > 5
                            witness.hear(home.take(effects))
                        else:
                            witness.hear(home.finish())
                        witness.check(self, home.keeper.tally())
                    home.disk.random_crash(rng)
                    home.boot()
                    witness.check(self, home.keeper.tally())
        self.assertGreater(restated, 100)

    def test_each_moment_and_all_fates_of_promises(self):
        self.live(13, False)

    def test_each_moment_and_many_fates_of_votes(self):
        self.live(24, True)

    def live(self, sectors, votes):
        """A keeper with so small a diary that its state is restated again and again."""
        rng = seeded(3)
        home, witness = Home(sectors), Witness()
        tried = restated = 0
        for k in range(1, 40):
            ballot = (k, 0, 1)
            letters = [("ask", 1, ballot), ("read", 1)]
            if votes and k % 3 == 0:
                letters.insert(1, ("vote", 1, ballot, (k,)))
            for letter in letters:
                effects = home.keeper.letter("p0", letter)
                restated += len(effects) > 5
                witness.hear(home.take(effects))
                tried += self.crash_each_way(rng, home, witness)
                if k % 5:
                    witness.hear(home.finish())
                    tried += self.crash_each_way(rng, home, witness)
        self.assertEqual(home.keeper.tally().promised(1), (39, 0, 1))
        self.assertGreater(restated, 5)
        self.assertGreater(tried, 1000)

    def crash_each_way(self, rng, home, witness):
        count = len(home.disk.open_writes)
        if count < 7:
            ways = list(itertools.product(range(3), repeat=count))
        else:
            ways = [[0] * at + [fate] + [1] * (count - at - 1) for at in range(count) for fate in range(3)]
            ways += [[rng.randrange(3) for _ in range(count)] for _ in range(50)]
        for fates in ways:
            disk = home.disk.copied()
            disk.crash(fates)
            self.live_on(home.sectors, disk, copy.deepcopy(witness))
        return len(ways)

    def live_on(self, sectors, disk, witness):
        """What was said stays true in the next lives."""
        again = Home(sectors)
        again.disk = disk
        again.boot()
        witness.check(self, again.keeper.tally())
        self.assertFalse(again.paper.diary.hurt())
        greatest = again.keeper.tally().promised(1)
        witness.hear(again.letter("p1", ("ask", 1, (60, 0, 1))))
        witness.hear(again.finish())
        witness.hear(again.letter("p1", ("ask", 1, (61, 0, 1))))
        self.assertGreaterEqual(again.keeper.tally().promised(1), greatest)
        again.disk.crash([1] * len(again.disk.open_writes))
        again.boot()
        witness.check(self, again.keeper.tally())


if __name__ == "__main__":
    unittest.main()
