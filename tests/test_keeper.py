"""Part 5: the keeper's letters, its replies, and what it writes (5.9 to 5.13, 5.15)."""

import copy
import unittest

from cairn.ballot import Tally
from cairn.diary import Diary
from cairn.pack import pack
from keepers import SYNC, Paper, disk_of, finished, new_keeper, reply
from support import BLANK, replaced

A, B, C = (1, 0, 1), (1, 1, 1), (2, 0, 1)
X, Y, Z = ("x",), ("y", 2), ("z", ("a", 1))


def state(keeper, slot):
    tally = keeper.tally()
    return tally.promised(slot), tally.voted(slot), tally.command(slot), tally.closed(slot)


class KeeperTest(unittest.TestCase):

    def setUp(self):
        self.keeper = new_keeper()
        self.paper = Paper(64, {})

    def enters(self, letter, record, sender="p0"):
        """A letter is handled by entering a record; the reply is held."""
        self.assertEqual(self.keeper.letter(sender, letter), self.paper.entered(record))

    def replies(self, letter, expected, sender="p0"):
        """A letter changes nothing, and is replied to at once."""
        before = self.keeper.tally().records()
        self.assertEqual(self.keeper.letter(sender, letter), [reply(*expected, to=sender)])
        self.assertEqual(self.keeper.tally().records(), before)

    def synced(self, *expected):
        self.paper.diary.synced()
        self.assertEqual(self.keeper.synced(), list(expected))


class AskTest(KeeperTest):

    def test_a_first_promise(self):
        self.enters(("ask", 4, A), (1, 4, A))
        self.assertEqual(state(self.keeper, 4), (A, (), (), False))
        self.synced(reply("promise", 4, A, (), ()))

    def test_an_equal_ballot(self):
        self.enters(("ask", 4, A), (1, 4, A))
        self.assertEqual(self.keeper.letter("p1", ("ask", 4, A)), [])
        promise = ("promise", 4, A, (), ())
        self.synced(reply(*promise), reply(*promise, to="p1"))
        self.replies(("ask", 4, A), promise)

    def test_a_greater_ballot(self):
        self.enters(("ask", 4, A), (1, 4, A))
        self.enters(("ask", 4, B), (1, 4, B))
        self.assertEqual(state(self.keeper, 4), (B, (), (), False))
        self.synced(reply("promise", 4, A, (), ()))
        self.synced(reply("promise", 4, B, (), ()))

    def test_a_smaller_ballot(self):
        self.enters(("ask", 4, B), (1, 4, B))
        self.assertEqual(self.keeper.letter("p1", ("ask", 4, A)), [])
        self.synced(reply("promise", 4, B, (), ()), reply("refuse", 4, A, B, to="p1"))
        self.replies(("ask", 4, A), ("refuse", 4, A, B))
        self.assertEqual(state(self.keeper, 4), (B, (), (), False))

    def test_after_a_vote(self):
        self.enters(("vote", 4, B, X), (2, 4, B, X))
        self.synced(reply("voted", 4, B))
        self.replies(("ask", 4, B), ("promise", 4, B, B, X))
        self.replies(("ask", 4, A), ("refuse", 4, A, B))
        self.enters(("ask", 4, C), (1, 4, C))
        self.assertEqual(state(self.keeper, 4), (C, B, X, False))
        self.synced(reply("promise", 4, C, B, X))
        self.replies(("ask", 4, B), ("refuse", 4, B, C))

    def test_a_closed_slot(self):
        self.enters(("tell", 4, X), (3, 4, X))
        self.synced()
        for ballot in (A, B, C):
            self.replies(("ask", 4, ballot), ("decided", 4, X))
        self.assertEqual(state(self.keeper, 4), ((), (), X, True))

    def test_other_slots_are_not_touched(self):
        self.enters(("ask", 4, C), (1, 4, C))
        self.synced(reply("promise", 4, C, (), ()))
        self.enters(("ask", 5, A), (1, 5, A))
        self.assertEqual(self.keeper.tally().slots(), [4, 5])


class VoteTest(KeeperTest):

    def test_with_the_promised_ballot(self):
        self.enters(("ask", 4, A), (1, 4, A))
        self.synced(reply("promise", 4, A, (), ()))
        self.enters(("vote", 4, A, X), (2, 4, A, X))
        self.assertEqual(state(self.keeper, 4), (A, A, X, False))
        self.synced(reply("voted", 4, A))

    def test_without_a_promise(self):
        self.enters(("vote", 4, A, X), (2, 4, A, X))
        self.assertEqual(state(self.keeper, 4), (A, A, X, False))

    def test_with_a_greater_ballot(self):
        self.enters(("ask", 4, A), (1, 4, A))
        self.enters(("vote", 4, B, X), (2, 4, B, X))
        self.enters(("vote", 4, C, Y), (2, 4, C, Y))
        self.assertEqual(state(self.keeper, 4), (C, C, Y, False))

    def test_with_a_smaller_ballot(self):
        self.enters(("ask", 4, B), (1, 4, B))
        self.synced(reply("promise", 4, B, (), ()))
        self.replies(("vote", 4, A, X), ("refuse", 4, A, B))
        self.enters(("vote", 4, C, Y), (2, 4, C, Y))
        self.synced(reply("voted", 4, C))
        self.replies(("vote", 4, B, X), ("refuse", 4, B, C))
        self.assertEqual(state(self.keeper, 4), (C, C, Y, False))

    def test_again(self):
        self.enters(("vote", 4, A, X), (2, 4, A, X))
        self.synced(reply("voted", 4, A))
        self.replies(("vote", 4, A, X), ("voted", 4, A))
        # Whatever the command: nothing is changed.
        self.replies(("vote", 4, A, Y), ("voted", 4, A))
        self.assertEqual(state(self.keeper, 4), (A, A, X, False))

    def test_behind_a_greater_promise(self):
        self.enters(("vote", 4, A, X), (2, 4, A, X))
        self.enters(("ask", 4, B), (1, 4, B))
        self.synced(reply("voted", 4, A))
        self.synced(reply("promise", 4, B, A, X))
        self.replies(("vote", 4, A, X), ("refuse", 4, A, B))
        self.enters(("vote", 4, B, Y), (2, 4, B, Y))
        self.assertEqual(state(self.keeper, 4), (B, B, Y, False))

    def test_a_closed_slot(self):
        self.enters(("tell", 4, X), (3, 4, X))
        self.synced()
        for command in (X, Y):
            self.replies(("vote", 4, C, command), ("decided", 4, X))
        self.assertEqual(state(self.keeper, 4), ((), (), X, True))


class TellTest(KeeperTest):

    def test_an_untouched_slot(self):
        self.enters(("tell", 4, X), (3, 4, X))
        self.synced()
        self.assertEqual(state(self.keeper, 4), ((), (), X, True))

    def test_a_slot_with_a_vote(self):
        self.enters(("vote", 4, A, X), (2, 4, A, X))
        self.enters(("ask", 4, B), (1, 4, B))
        self.enters(("tell", 4, Y), (3, 4, Y))
        self.assertEqual(state(self.keeper, 4), (B, A, Y, True))
        self.synced(reply("voted", 4, A))
        self.synced(reply("promise", 4, B, A, X))
        self.synced()

    def test_again(self):
        self.enters(("tell", 4, X), (3, 4, X))
        for command in (X, Y):
            self.assertEqual(self.keeper.letter("p1", ("tell", 4, command)), [])
        self.assertEqual(state(self.keeper, 4), ((), (), X, True))
        self.synced()


class ReadTest(KeeperTest):

    def test_from_each_slot_on(self):
        for letter in (
            ("tell", 7, X), ("ask", 5, A), ("vote", 2, A, Y), ("ask", 2, C), ("vote", 300, B, Z), ("vote", 3, A, X),
            ("tell", 3, Z),
        ):
            self.keeper.letter("p0", letter)
        finished(self.keeper)
        found = [(2, A, Y), (3, (), Z), (7, (), X), (300, B, Z)]
        for slot in (1, 2, 3, 4, 7, 8, 300, 301, 60000):
            expected = tuple(entry for entry in found if entry[0] >= slot)
            self.replies(("read", slot), ("log", slot, expected), sender="p1")

    def test_nothing(self):
        self.replies(("read", 1), ("log", 1, ()))


class OtherLettersTest(KeeperTest):

    def test_they_change_nothing(self):
        self.enters(("vote", 4, A, X), (2, 4, A, X))
        for letter in (
            ("promise", 4, A, (), ()), ("voted", 4, A), ("refuse", 4, A, B), ("decided", 4, X), ("log", 1, ()),
            ("put", 4, 1, (1,)), ("list",), ("",), ("Ask", 4, C), ("asks", 4, C), ("forget", 4),
        ):
            with self.subTest(letter=letter):
                self.assertEqual(self.keeper.letter("p0", letter), [])
                self.assertEqual(state(self.keeper, 4), (A, A, X, False))
        self.synced(reply("voted", 4, A))
        self.synced()


class HeldTest(KeeperTest):

    def test_each_kind_is_held(self):
        self.enters(("tell", 1, X), (3, 1, X))
        for letter in (("ask", 1, A), ("vote", 1, A, Y), ("read", 1), ("ask", 1, A)):
            self.assertEqual(self.keeper.letter("p1", letter), [])
        decided = reply("decided", 1, X, to="p1")
        self.synced(decided, decided, reply("log", 1, ((1, (), X),), to="p1"), decided)

    def test_over_several_syncs(self):
        self.enters(("ask", 1, A), (1, 1, A))
        self.assertEqual(self.keeper.letter("x", ("read", 1)), [])
        self.enters(("vote", 2, A, X), (2, 2, A, X))
        self.assertEqual(self.keeper.letter("y", ("read", 1)), [])
        self.assertEqual(self.keeper.letter("y", ("ask", 1, A)), [])
        self.enters(("tell", 3, Y), (3, 3, Y))
        self.assertEqual(self.keeper.letter("z", ("ask", 3, A)), [])
        self.assertEqual(self.keeper.letter("x", ("vote", 2, (1, 0, 0), Z)), [])
        self.synced(reply("promise", 1, A, (), ()), reply("log", 1, (), to="x"))
        self.synced(
            reply("voted", 2, A), reply("log", 1, ((2, A, X),), to="y"), reply("promise", 1, A, (), (), to="y"))
        self.synced(reply("decided", 3, Y, to="z"), reply("refuse", 2, (1, 0, 0), A, to="x"))
        self.synced()
        self.replies(("read", 3), ("log", 3, ((3, (), Y),)))

    def test_a_reply_is_made_when_the_letter_is_handled(self):
        self.enters(("ask", 1, A), (1, 1, A))
        self.assertEqual(self.keeper.letter("p1", ("read", 1)), [])
        self.enters(("vote", 1, A, X), (2, 1, A, X))
        self.enters(("tell", 1, X), (3, 1, X))
        self.synced(reply("promise", 1, A, (), ()), reply("log", 1, (), to="p1"))
        self.synced(reply("voted", 1, A))
        self.synced()

    def test_synced_without_an_unfinished_sync(self):
        for _ in range(3):
            self.assertEqual(self.keeper.synced(), [])
        self.enters(("ask", 1, A), (1, 1, A))
        self.synced(reply("promise", 1, A, (), ()))
        for _ in range(3):
            self.assertEqual(self.keeper.synced(), [])
        # They do not count for a later sync.
        self.enters(("ask", 1, B), (1, 1, B))
        self.assertEqual(self.keeper.letter("p1", ("read", 1)), [])
        self.synced(reply("promise", 1, B, (), ()), reply("log", 1, (), to="p1"))

    def test_tick(self):
        self.enters(("ask", 1, A), (1, 1, A))
        for _ in range(20):
            self.assertEqual(self.keeper.tick(), [])
        self.synced(reply("promise", 1, A, (), ()))

    def test_a_crash_loses_what_was_held(self):
        effects = self.keeper.letter("p0", ("vote", 1, A, X))
        disk = {effect[1]: effect[2] for effect in effects if effect[0] == "write"}
        again = new_keeper(64, disk)
        self.assertEqual(again.synced(), [])
        self.assertEqual(state(again, 1), (A, A, X, False))
        self.assertEqual(again.letter("p0", ("vote", 1, A, X)), [reply("voted", 1, A)])


class FullTest(unittest.TestCase):

    def test_a_full_diary(self):
        keeper = new_keeper(4)
        paper = Paper(4, {})
        self.assertEqual(keeper.letter("p0", ("tell", 1, X)), paper.entered((3, 1, X)))
        self.assertEqual(keeper.letter("p0", ("tell", 2, X)), paper.entered((3, 2, X)))
        self.assertEqual(paper.diary.free(), 0)
        keeper.synced()
        keeper.synced()
        before = keeper.tally().records()
        for letter in (("ask", 3, A), ("vote", 3, A, X), ("tell", 3, X)):
            self.assertEqual(keeper.letter("p0", letter), [])
            self.assertEqual(keeper.tally().records(), before)
            self.assertEqual(keeper.tally().slots(), [1, 2])
        # No sync was asked for, and what changes nothing is replied to.
        self.assertEqual(keeper.synced(), [])
        self.assertEqual(keeper.letter("p0", ("ask", 1, C)), [reply("decided", 1, X)])
        self.assertEqual(keeper.letter("p0", ("read", 2)), [reply("log", 2, ((2, (), X),))])

    def test_a_promise_and_a_vote_that_do_not_fit(self):
        keeper = new_keeper(4)
        keeper.letter("p0", ("ask", 1, A))
        keeper.letter("p0", ("ask", 1, B))
        finished(keeper)
        self.assertEqual(keeper.letter("p0", ("ask", 1, C)), [])
        self.assertEqual(keeper.letter("p0", ("vote", 1, B, X)), [])
        self.assertEqual(keeper.letter("p0", ("tell", 1, X)), [])
        self.assertEqual(state(keeper, 1), (B, (), (), False))
        self.assertEqual(keeper.letter("p0", ("ask", 1, B)), [reply("promise", 1, B, (), ())])
        self.assertEqual(keeper.letter("p0", ("ask", 1, A)), [reply("refuse", 1, A, B)])

    def test_a_smaller_record_may_fit(self):
        keeper = new_keeper(6)
        paper = Paper(6, {})
        long = ("x" * 60,)
        self.assertEqual(keeper.letter("p0", ("ask", 1, A)), paper.entered((1, 1, A)))
        self.assertEqual(paper.diary.free(), 4)
        self.assertEqual(keeper.letter("p0", ("vote", 1, A, long)), [])
        self.assertEqual(keeper.letter("p0", ("tell", 1, X)), paper.entered((3, 1, X)))

    def test_long_commands(self):
        for length in (380, 393, 394, 395, 500, 600, 3000):
            keeper = new_keeper(256)
            paper = Paper(256, {})
            command = ("x" * length,)
            record = (2, 60000, (60000, 15, 60000), command)
            effects = keeper.letter("p0", ("vote", *record[1:]))
            if len(pack(record)) <= 600:
                self.assertEqual(effects, paper.entered(record))
                self.assertEqual(finished(keeper), [reply("voted", *record[1:3])])
            else:
                # No diary takes it, and no error is promised.
                self.assertEqual((effects, keeper.tally().slots()), ([], []))
            self.assertEqual(pack(command)[:2], [4, 1])

    def test_a_command_of_400_octets(self):
        command = ("x" * 395,)
        self.assertEqual(len(pack(command)), 400)
        keeper = new_keeper(64)
        effects = keeper.letter("p0", ("vote", 1, A, command))
        disk = {effect[1]: effect[2] for effect in effects if effect[0] == "write"}
        self.assertEqual(state(new_keeper(64, disk), 1), (A, A, command, False))


class StartTest(unittest.TestCase):

    def test_an_empty_disk(self):
        keeper = new_keeper(4)
        self.assertEqual((keeper.tally().slots(), keeper.synced(), keeper.tick()), ([], [], []))

    def test_the_tally_is_that_of_the_entries(self):
        records = [(1, 4, A), (2, 4, A, X), (0,), (1, 4, C), (3, 9, Y), (2, 5, B, Z), (1, 9, C)]
        keeper = new_keeper(64, disk_of(*records))
        self.assertEqual(keeper.tally().records(), Tally(records).records())
        self.assertEqual(state(keeper, 4), (C, A, X, False))
        self.assertEqual(keeper.letter("p0", ("ask", 4, B)), [reply("refuse", 4, B, C)])
        self.assertEqual(keeper.letter("p0", ("vote", 9, C, X)), [reply("decided", 9, Y)])

    def test_the_diary_goes_on(self):
        disk = disk_of((1, 4, A), (2, 4, A, X))
        keeper = new_keeper(64, disk)
        self.assertEqual(keeper.letter("p0", ("ask", 4, B)), Paper(64, disk).entered((1, 4, B)))

    def test_only_the_first_sectors_are_the_diary(self):
        disk = disk_of((1, 4, A), sectors=8)
        disk[8] = replaced(BLANK, 3)
        keeper = new_keeper(8, disk)
        self.assertEqual(keeper.letter("p0", ("ask", 4, A)), [reply("promise", 4, A, (), ())])

    def test_commands_as_deep_as_they_may_be(self):
        command = ("deep",)
        for _ in range(8):
            command = (command, 1)
        # A record is nested deeper than the command in it.
        for letter in (("vote", 1, A, command), ("tell", 1, command)):
            effects = new_keeper().letter("p0", letter)
            disk = {effect[1]: effect[2] for effect in effects if effect[0] == "write"}
            self.assertEqual(state(new_keeper(64, disk), 1)[2], command)


class MuteTest(unittest.TestCase):

    def test_a_rotten_half(self):
        disk = disk_of((1, 4, A), (3, 5, X), sectors=8)
        for place in range(8):
            for cell in (0, 15, 16, 31):
                spoilt = dict(disk)
                spoilt[place] = replaced(spoilt.get(place, BLANK), cell)
                self.assertTrue(Diary(0, 8, spoilt).hurt())
                self.mute(new_keeper(8, spoilt))

    def mute(self, keeper):
        before = keeper.tally().records()
        for letter in (
            ("ask", 4, C), ("vote", 4, C, X), ("tell", 4, X), ("read", 1), ("ask", 5, C), ("ask", 6, A), ("hello",),
        ):
            self.assertEqual(keeper.letter("p0", letter), [])
            self.assertEqual((keeper.synced(), keeper.tick()), ([], []))
        self.assertEqual(keeper.tally().records(), before)

    def test_a_torn_sector_is_no_rot(self):
        disk = disk_of((1, 4, A), (3, 5, X), sectors=8)
        disk[2] = disk[2][:16] + BLANK[16:]
        keeper = new_keeper(8, disk)
        self.assertEqual(keeper.letter("p0", ("ask", 4, A)), [reply("promise", 4, A, (), ())])


class KindsTest(unittest.TestCase):

    def test_a_tally_of_ones_own(self):
        keeper = new_keeper()
        for letter in (("vote", 4, A, X), ("ask", 4, C), ("tell", 5, Y), ("vote", 6, A, X), ("tell", 6, X)):
            keeper.letter("p0", letter)
        tally = keeper.tally()
        self.assertIsInstance(tally, Tally)
        # The ballots of closed slots are in it.
        self.assertEqual(state(keeper, 6), (A, A, X, True))
        before = [state(keeper, slot) for slot in range(9)]
        for record in ((3, 4, Z), (1, 7, A), (2, 8, A, Z)):
            tally.apply(record)
        self.assertEqual([state(keeper, slot) for slot in range(9)], before)
        self.assertEqual(keeper.tally().slots(), [4, 5, 6])

    def test_a_tally_does_not_follow_the_keeper(self):
        keeper = new_keeper()
        tally = keeper.tally()
        keeper.letter("p0", ("ask", 4, A))
        self.assertEqual(tally.slots(), [])

    def test_the_dict_of_sectors(self):
        disk = disk_of((1, 4, A))
        kept = copy.deepcopy(disk)
        keeper = new_keeper(64, disk)
        keeper.letter("p0", ("vote", 4, A, X))
        keeper.synced()
        self.assertEqual(disk, kept)
        disk.clear()
        self.assertEqual(state(keeper, 4), (A, A, X, False))

    def test_what_is_returned_is_new(self):
        keeper = new_keeper()
        for call in (
            lambda: keeper.letter("p0", ("read", 1)), lambda: keeper.letter("p0", ("hello",)),
            lambda: keeper.synced(), lambda: keeper.tick(),
        ):
            found = call()
            self.assertIsInstance(found, list)
            expected = list(found)
            found.append("more")
            self.assertEqual(call(), expected)
        keeper.letter("p0", ("ask", 1, A)).clear()
        self.assertEqual(keeper.synced(), [reply("promise", 1, A, (), ())])

    def test_entries_in_a_letter_are_a_tuple(self):
        keeper = new_keeper(64, disk_of((3, 1, X)))
        self.assertEqual(keeper.letter("p0", ("read", 1)), [("send", "p0", ("log", 1, ((1, (), X),)))])

    def test_one_flush_for_each_record(self):
        keeper = new_keeper()
        for letter in (("ask", 1, A), ("vote", 1, A, X), ("tell", 1, X)):
            effects = keeper.letter("p0", letter)
            self.assertEqual(effects.count(SYNC), 1)
            self.assertEqual(effects[-1], SYNC)


if __name__ == "__main__":
    unittest.main()
