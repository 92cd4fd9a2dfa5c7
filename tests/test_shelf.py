"""Part 4: the shelf process (4.10 to 4.14, 4.16)."""

import copy
import unittest

from cairn.config import Config
from cairn.shelf import Shelf
from support import BLANK, Disk, digits, replaced, sector, torn


def config_of(sectors):
    return Config(1, 4, 2, 1, sectors)


def run(stamp, ticket, index, octets):
    """The sectors of a fragment (4.3)."""
    octets = list(octets)
    parts = [[4, *digits(ticket, 3), index, len(octets), 0, *octets[:15]]]
    parts += [[5, *octets[at:at + 21]] for at in range(15, len(octets), 21)]
    return [sector(stamp + k, part) for k, part in enumerate(parts)]


def written(place, sectors):
    return [("write", place + k, found) for k, found in enumerate(sectors)]


def mark(stamp):
    return sector(stamp, [6])


def sends(*letters, to="p0"):
    return [("send", to, letter) for letter in letters]


SYNC = [("sync",)]
LONG = tuple(range(20))


def new_shelf(sectors=64, disk=None):
    return Shelf("s0", config_of(sectors), disk or {})


def shelf_with(*tickets, sectors=64, octets=(1, 2, 3)):
    """A shelf that holds some tickets safely."""
    shelf = new_shelf(sectors)
    for ticket in tickets:
        shelf.letter("p0", ("put", ticket, 1, octets))
    while shelf.waiting():
        shelf.synced()
    return shelf


class PutTest(unittest.TestCase):

    def test_a_new_fragment(self):
        shelf = new_shelf()
        effects = shelf.letter("p1", ("put", 300, 7, LONG))
        self.assertEqual(effects, written(0, run(1, 300, 7, LONG)) + SYNC)
        self.assertEqual(shelf.waiting(), 1)
        self.assertEqual(shelf.holds(), [(300, 7, LONG)])
        self.assertFalse(shelf.is_safe(300))
        self.assertEqual(shelf.synced(), sends(("kept", 300, 7), to="p1"))
        self.assertTrue(shelf.is_safe(300))
        self.assertEqual(shelf.waiting(), 0)

    def test_what_is_held_and_safe(self):
        shelf = shelf_with(5)
        self.assertEqual(shelf.letter("p1", ("put", 5, 1, (1, 2, 3))), sends(("kept", 5, 1), to="p1"))
        self.assertEqual(shelf.waiting(), 0)
        # Also while another sync is unfinished.
        shelf.letter("p0", ("put", 6, 1, (1,)))
        self.assertEqual(shelf.letter("p1", ("put", 5, 1, (1, 2, 3))), sends(("kept", 5, 1), to="p1"))

    def test_what_is_held_and_not_safe(self):
        shelf = new_shelf()
        shelf.letter("p0", ("put", 5, 1, (1, 2, 3)))
        self.assertEqual(shelf.letter("p1", ("put", 5, 1, (1, 2, 3))), [])
        self.assertEqual(shelf.letter("p0", ("put", 5, 1, (1, 2, 3))), [])
        self.assertEqual(shelf.waiting(), 1)
        expected = sends(("kept", 5, 1)) + sends(("kept", 5, 1), to="p1") + sends(("kept", 5, 1))
        self.assertEqual(shelf.synced(), expected)

    def test_it_waits_for_its_own_sync_only(self):
        shelf = new_shelf()
        shelf.letter("p0", ("put", 5, 1, (1,)))
        shelf.letter("p0", ("put", 6, 1, (1,)))
        self.assertEqual(shelf.letter("p1", ("put", 5, 1, (1,))), [])
        self.assertEqual(shelf.synced(), sends(("kept", 5, 1)) + sends(("kept", 5, 1), to="p1"))
        self.assertEqual(shelf.synced(), sends(("kept", 6, 1)))

    def test_another_index_or_other_octets(self):
        for safe in (True, False):
            shelf = shelf_with(5) if safe else new_shelf()
            shelf.letter("p0", ("put", 5, 1, (1, 2, 3)))
            waiting = shelf.waiting()
            for index, octets in ((2, (1, 2, 3)), (1, (1, 2)), (1, (1, 2, 4)), (0, (9,)), (1, (1, 2, 3, 0))):
                effects = shelf.letter("p1", ("put", 5, index, octets))
                self.assertEqual(effects, sends(("other", 5, 1), to="p1"))
            # Also where the index would refuse the octets.
            for octets in ((), (0,) * 201):
                self.assertEqual(shelf.letter("p1", ("put", 5, 1, octets)), sends(("other", 5, 1), to="p1"))
            self.assertEqual(shelf.waiting(), waiting)
            self.assertEqual(shelf.holds(), [(5, 1, (1, 2, 3))])

    def test_crowded(self):
        shelf = shelf_with(1, 2, 3, sectors=4)
        for octets in (LONG, (), (0,) * 201, (0,) * 200):
            self.assertEqual(shelf.letter("p1", ("put", 9, 1, octets)), sends(("crowded", 9), to="p1"))
            self.assertEqual(shelf.waiting(), 0)
        # One place is left.
        effects = shelf.letter("p0", ("put", 9, 1, (1,) * 15))
        self.assertEqual(effects, written(3, run(4, 9, 1, (1,) * 15)) + SYNC)
        self.assertEqual(shelf.letter("p0", ("put", 10, 1, (1,))), sends(("crowded", 10)))
        self.assertEqual([ticket for ticket, _, _ in shelf.holds()], [1, 2, 3, 9])

    def test_an_empty_fragment_and_one_that_is_too_long(self):
        shelf = new_shelf()
        self.assertEqual(shelf.letter("p0", ("put", 9, 1, ())), sends(("crowded", 9)))
        self.assertEqual(shelf.letter("p0", ("put", 9, 1, (0,) * 201)), sends(("crowded", 9)))
        self.assertEqual((shelf.holds(), shelf.waiting()), ([], 0))
        self.assertEqual(shelf.letter("p0", ("get", 9)), sends(("missing", 9)))
        effects = shelf.letter("p0", ("put", 9, 1, (7,) * 200))
        self.assertEqual(effects, written(0, run(1, 9, 1, (7,) * 200)) + SYNC)

    def test_the_places_of_a_dropped_fragment_are_used_again(self):
        shelf = shelf_with(1, 2, sectors=4)
        shelf.letter("p0", ("drop", 1))
        effects = shelf.letter("p0", ("put", 1, 3, (8,)))
        self.assertEqual(effects, written(0, run(4, 1, 3, (8,))) + SYNC)


class GetTest(unittest.TestCase):

    def test_a_piece_at_once(self):
        shelf = new_shelf()
        shelf.letter("p0", ("put", 5, 2, (7, 8)))
        self.assertEqual(shelf.letter("p1", ("get", 5)), sends(("piece", 5, 2, (7, 8)), to="p1"))
        shelf.synced()
        self.assertEqual(shelf.letter("p1", ("get", 5)), sends(("piece", 5, 2, (7, 8)), to="p1"))

    def test_missing(self):
        shelf = shelf_with(5)
        self.assertEqual(shelf.letter("p1", ("get", 6)), sends(("missing", 6), to="p1"))
        shelf.letter("p0", ("drop", 5))
        self.assertEqual(shelf.letter("p1", ("get", 5)), sends(("missing", 5), to="p1"))

    def test_a_get_does_not_wait(self):
        shelf = shelf_with(5)
        shelf.letter("p0", ("put", 6, 1, (1,)))
        self.assertEqual(shelf.letter("p0", ("get", 7)), sends(("missing", 7)))
        self.assertEqual(shelf.letter("p0", ("get", 5)), sends(("piece", 5, 1, (1, 2, 3))))

    def test_octets_come_from_memory(self):
        disk = dict(enumerate(run(1, 5, 1, LONG)))
        shelf = new_shelf(8, disk)
        disk.clear()
        shelf.look(1, BLANK)
        self.assertEqual(shelf.letter("p0", ("get", 5)), sends(("piece", 5, 1, LONG)))


class DropTest(unittest.TestCase):

    def test_a_held_ticket(self):
        shelf = shelf_with(5, 6)
        self.assertEqual(shelf.letter("p1", ("drop", 6)), [("write", 1, mark(3))] + SYNC)
        self.assertEqual(shelf.holds(), [(5, 1, (1, 2, 3))])
        self.assertFalse(shelf.is_safe(6))
        self.assertEqual(shelf.synced(), sends(("dropped", 6), to="p1"))

    def test_one_that_is_not_safe(self):
        shelf = new_shelf()
        shelf.letter("p0", ("put", 5, 1, LONG))
        self.assertEqual(shelf.letter("p0", ("drop", 5)), [("write", 0, mark(3))] + SYNC)
        self.assertEqual(shelf.waiting(), 2)
        self.assertEqual(shelf.synced(), [])
        self.assertEqual(shelf.synced(), sends(("dropped", 5)))

    def test_all_runs_get_a_mark(self):
        shelf = shelf_with(5)
        shelf.look(0, BLANK)
        self.assertEqual(shelf.letter("p0", ("drop", 5)), [("write", 0, mark(3)), ("write", 1, mark(4))] + SYNC)

    def test_one_that_is_not_held_without_an_unfinished_sync(self):
        shelf = shelf_with(5)
        self.assertEqual(shelf.letter("p1", ("drop", 6)), sends(("dropped", 6), to="p1"))
        self.assertEqual(shelf.waiting(), 0)
        self.assertEqual(new_shelf().letter("p1", ("drop", 6)), sends(("dropped", 6), to="p1"))

    def test_one_that_is_not_held_with_unfinished_syncs(self):
        shelf = shelf_with(5)
        shelf.letter("p0", ("drop", 5))
        shelf.letter("p0", ("put", 7, 1, (1,)))
        self.assertEqual(shelf.letter("p1", ("drop", 5)), [])
        self.assertEqual(shelf.letter("p1", ("drop", 99)), [])
        self.assertEqual(shelf.waiting(), 2)
        self.assertEqual(shelf.synced(), sends(("dropped", 5)))
        self.assertEqual(shelf.synced(), sends(("kept", 7, 1)) + sends(("dropped", 5), ("dropped", 99), to="p1"))

    def test_kept_answers_are_taken_back(self):
        shelf = new_shelf()
        shelf.letter("p0", ("put", 5, 1, (1,)))
        shelf.letter("p1", ("put", 5, 1, (1,)))
        shelf.letter("p1", ("put", 6, 1, (1,)))
        shelf.letter("p0", ("drop", 5))
        self.assertEqual(shelf.synced(), [])
        self.assertEqual(shelf.synced(), sends(("kept", 6, 1), to="p1"))
        self.assertEqual(shelf.synced(), sends(("dropped", 5)))

    def test_only_kept_answers_are_taken_back(self):
        shelf = shelf_with(5)
        shelf.letter("p0", ("drop", 5))
        shelf.letter("p0", ("put", 5, 1, (1,)))
        shelf.letter("p1", ("drop", 5))
        self.assertEqual(shelf.synced(), sends(("dropped", 5)))
        self.assertEqual(shelf.synced(), [])
        self.assertEqual(shelf.synced(), sends(("dropped", 5), to="p1"))

    def test_a_put_behind_the_drop_is_answered(self):
        shelf = new_shelf()
        shelf.letter("p0", ("put", 5, 1, (1,)))
        shelf.letter("p0", ("drop", 5))
        shelf.letter("p1", ("put", 5, 2, (9,)))
        self.assertEqual(shelf.synced(), [])
        self.assertFalse(shelf.is_safe(5))
        self.assertEqual(shelf.synced(), sends(("dropped", 5)))
        self.assertFalse(shelf.is_safe(5))
        self.assertEqual(shelf.synced(), sends(("kept", 5, 2), to="p1"))
        self.assertTrue(shelf.is_safe(5))


class ListTest(unittest.TestCase):

    def test_safe_fragments_in_ascending_order(self):
        shelf = shelf_with(9, 300, 2)
        self.assertEqual(shelf.letter("p1", ("list",)), sends(("have", (2, 9, 300)), to="p1"))
        shelf.letter("p0", ("put", 5, 1, (1,)))
        self.assertEqual(shelf.letter("p1", ("list",)), sends(("have", (2, 9, 300)), to="p1"))
        shelf.letter("p0", ("drop", 9))
        self.assertEqual(shelf.letter("p1", ("list",)), sends(("have", (2, 300)), to="p1"))
        shelf.synced()
        self.assertEqual(shelf.letter("p1", ("list",)), sends(("have", (2, 5, 300)), to="p1"))

    def test_an_empty_shelf(self):
        self.assertEqual(new_shelf().letter("p1", ("list",)), sends(("have", ()), to="p1"))

    def test_what_was_read_from_the_disk_is_safe(self):
        disk = dict(enumerate(run(1, 5, 1, (1,)) + run(2, 3, 1, LONG)))
        shelf = new_shelf(8, disk)
        self.assertEqual(shelf.letter("p1", ("list",)), sends(("have", (3, 5)), to="p1"))
        self.assertEqual(shelf.holds(), [(3, 1, LONG), (5, 1, (1,))])
        self.assertTrue(shelf.is_safe(3))
        self.assertFalse(shelf.is_safe(4))


class OtherLettersTest(unittest.TestCase):

    def test_they_are_ignored(self):
        shelf = shelf_with(5)
        shelf.letter("p0", ("put", 6, 1, (1,)))
        for letter in (
            ("ask", 1, (1, 0, 1)), ("kept", 5, 1), ("piece", 5, 1, (1,)), ("have", (1,)), ("",), ("lists",),
            ("PUT", 7, 1, (1,)), ("read", 1), ("forget", 5), ("dropped", 5), ("trim", 5), ("rewrite", 5),
            ("put", 7, 1), ("put", 7, 1, (1,), 2), ("get",), ("get", 5, 5), ("drop",), ("drop", 5, 5), ("list", 5),
        ):
            with self.subTest(letter=letter):
                self.assertEqual(shelf.letter("p0", letter), [])
                self.assertEqual(shelf.waiting(), 1)
                self.assertEqual(shelf.holds(), [(5, 1, (1, 2, 3)), (6, 1, (1,))])

    def test_tick(self):
        shelf = shelf_with(5)
        shelf.letter("p0", ("put", 6, 1, (1,)))
        for _ in range(20):
            self.assertEqual(shelf.tick(), [])
        self.assertEqual(shelf.waiting(), 1)


class SyncedTest(unittest.TestCase):

    def test_without_an_unfinished_sync(self):
        shelf = new_shelf()
        self.assertEqual(shelf.synced(), [])
        shelf.letter("p0", ("put", 6, 1, (1,)))
        shelf.synced()
        for _ in range(3):
            self.assertEqual(shelf.synced(), [])
            self.assertEqual(shelf.waiting(), 0)
        # They do not count for a later one.
        shelf.letter("p0", ("put", 7, 1, (1,)))
        self.assertFalse(shelf.is_safe(7))
        self.assertEqual(shelf.waiting(), 1)

    def test_answers_of_several_senders_in_the_order_of_their_letters(self):
        shelf = shelf_with(3)
        shelf.letter("p0", ("put", 5, 1, (1,)))
        shelf.letter("x", ("drop", 77))
        shelf.letter("p1", ("put", 5, 1, (1,)))
        shelf.letter("y", ("drop", 3))
        shelf.letter("p1", ("drop", 78))
        shelf.letter("z", ("put", 5, 1, (1,)))
        shelf.letter("x", ("drop", 3))
        self.assertEqual(shelf.waiting(), 2)
        self.assertEqual(shelf.synced(), [
            ("send", "p0", ("kept", 5, 1)), ("send", "x", ("dropped", 77)), ("send", "p1", ("kept", 5, 1)),
            ("send", "z", ("kept", 5, 1)),
        ])
        self.assertEqual(shelf.synced(), [
            ("send", "y", ("dropped", 3)), ("send", "p1", ("dropped", 78)), ("send", "x", ("dropped", 3)),
        ])

    def test_syncs_finish_in_order(self):
        shelf = new_shelf()
        for ticket in (4, 2, 9):
            shelf.letter("p0", ("put", ticket, 1, (1,)))
        self.assertEqual(shelf.waiting(), 3)
        for ticket in (4, 2, 9):
            self.assertEqual(shelf.synced(), sends(("kept", ticket, 1)))


class LookTest(unittest.TestCase):

    def test_a_right_place_and_a_free_one(self):
        shelf = shelf_with(5, sectors=8, octets=LONG)
        for place, found in enumerate(run(1, 5, 1, LONG)):
            self.assertEqual(shelf.look(place, found), [])
        for place in range(2, 8):
            self.assertEqual(shelf.look(place, BLANK), [])
            self.assertEqual(shelf.look(place, sector(9, [4])), [])
        for place in (8, 9, 5000):
            self.assertEqual(shelf.look(place, sector(9, [4])), [])
        self.assertEqual(shelf.waiting(), 0)

    def test_spoilt_places(self):
        right = run(1, 5, 1, LONG)
        for place in (0, 1):
            for wrong in (BLANK, replaced(right[place], 3), replaced(right[place], 31), torn(right[place], BLANK)):
                shelf = shelf_with(5, sectors=8, octets=LONG)
                effects = shelf.look(place, wrong)
                self.assertEqual(effects, written(2, run(3, 5, 1, LONG)) + SYNC)
                self.assertEqual(shelf.waiting(), 1)
                self.assertEqual(shelf.synced(), [("write", 0, mark(5))] + SYNC)
                self.assertEqual(shelf.waiting(), 1)
                self.assertEqual(shelf.synced(), [])
                self.assertEqual(shelf.waiting(), 0)
                # The new run counts now, and the places of the old one are free.
                self.assertEqual(shelf.look(place, wrong), [])
                self.assertEqual(shelf.look(2, run(3, 5, 1, LONG)[0]), [])
                effects = shelf.look(3, BLANK)
                self.assertEqual(effects, written(0, run(6, 5, 1, LONG)) + SYNC)

    def test_twice_while_the_copy_waits(self):
        shelf = shelf_with(5, sectors=8)
        self.assertEqual(len(shelf.look(0, BLANK)), 2)
        self.assertEqual(shelf.look(0, BLANK), [])
        # The new run may rot, too.
        self.assertEqual(shelf.look(1, BLANK), [])
        self.assertEqual(shelf.synced(), [("write", 0, mark(3))] + SYNC)
        # The copy waits until the sync behind the trim has finished.
        self.assertEqual(shelf.look(1, BLANK), [])
        self.assertEqual(shelf.waiting(), 1)
        self.assertEqual(shelf.synced(), [])
        self.assertEqual(shelf.look(1, BLANK), written(0, run(4, 5, 1, (1, 2, 3))) + SYNC)

    def test_copies_of_several_tickets(self):
        shelf = shelf_with(5, 6, sectors=8)
        self.assertEqual(shelf.look(1, BLANK), written(2, run(3, 6, 1, (1, 2, 3))) + SYNC)
        self.assertEqual(shelf.look(0, BLANK), written(3, run(4, 5, 1, (1, 2, 3))) + SYNC)
        self.assertEqual(shelf.look(1, BLANK), [])
        self.assertEqual(shelf.synced(), [("write", 1, mark(5))] + SYNC)
        self.assertEqual(shelf.synced(), [("write", 0, mark(6))] + SYNC)
        self.assertEqual(shelf.synced(), [])
        self.assertEqual(shelf.look(2, BLANK), written(0, run(7, 6, 1, (1, 2, 3))) + SYNC)
        self.assertEqual(shelf.look(3, BLANK), [])

    def test_no_room(self):
        shelf = shelf_with(1, 2, 3, sectors=4)
        shelf.letter("p0", ("put", 4, 1, (1,)))
        self.assertEqual(shelf.look(0, BLANK), [])
        self.assertEqual(shelf.waiting(), 1)
        # What failed is not waiting: it is done when there is room.
        shelf.letter("p0", ("drop", 4))
        self.assertEqual(shelf.look(0, BLANK), written(3, run(6, 1, 1, (1, 2, 3))) + SYNC)

    def test_a_fragment_that_is_not_safe(self):
        shelf = new_shelf(8)
        shelf.letter("p0", ("put", 5, 1, (1,)))
        self.assertEqual(shelf.look(0, BLANK), written(1, run(2, 5, 1, (1,))) + SYNC)
        self.assertFalse(shelf.is_safe(5))
        self.assertEqual(shelf.synced(), sends(("kept", 5, 1)))
        self.assertTrue(shelf.is_safe(5))
        self.assertEqual(shelf.synced(), [("write", 0, mark(3))] + SYNC)

    def test_a_copy_does_not_make_a_fragment_unsafe(self):
        shelf = shelf_with(5, sectors=8)
        shelf.look(0, BLANK)
        self.assertTrue(shelf.is_safe(5))
        self.assertEqual(shelf.letter("p0", ("list",)), sends(("have", (5,))))
        self.assertEqual(shelf.letter("p0", ("put", 5, 1, (1, 2, 3))), sends(("kept", 5, 1)))
        self.assertEqual(shelf.letter("p0", ("get", 5)), sends(("piece", 5, 1, (1, 2, 3))))

    def test_answers_wait_for_the_sync_of_the_copy(self):
        shelf = shelf_with(5, sectors=8)
        shelf.look(0, BLANK)
        self.assertEqual(shelf.letter("p1", ("drop", 9)), [])
        effects = shelf.synced()
        # The writes and the sync of the copy come first.
        self.assertEqual(effects, [("write", 0, mark(3))] + SYNC + sends(("dropped", 9), to="p1"))
        self.assertEqual(shelf.letter("p1", ("drop", 9)), [])
        self.assertEqual(shelf.synced(), sends(("dropped", 9), to="p1"))

    def test_dropped_before_the_copy_is_safe(self):
        shelf = shelf_with(5, sectors=8)
        shelf.look(0, BLANK)
        self.assertEqual(shelf.letter("p0", ("drop", 5)), [("write", 0, mark(3)), ("write", 1, mark(4))] + SYNC)
        self.assertEqual(shelf.synced(), [])
        self.assertEqual(shelf.waiting(), 1)
        self.assertEqual(shelf.synced(), sends(("dropped", 5)))
        self.assertEqual(shelf.waiting(), 0)
        # The copy does not wait any more.
        shelf.letter("p0", ("put", 5, 1, (1,)))
        self.assertEqual(shelf.look(0, BLANK), written(1, run(6, 5, 1, (1,))) + SYNC)

    def test_dropped_and_put_again_before_the_copy_is_safe(self):
        shelf = shelf_with(5, sectors=8)
        shelf.look(0, BLANK)
        shelf.letter("p0", ("drop", 5))
        self.assertEqual(shelf.letter("p0", ("put", 5, 2, (9,))), written(0, run(5, 5, 2, (9,))) + SYNC)
        # The copy of the ticket is waiting still, and there is one run only, which stays.
        self.assertEqual(shelf.look(0, BLANK), [])
        self.assertEqual(shelf.synced(), SYNC)
        self.assertEqual(shelf.look(0, BLANK), [])
        self.assertEqual(shelf.synced(), sends(("dropped", 5)))
        self.assertEqual(shelf.synced(), sends(("kept", 5, 2)))
        self.assertEqual(shelf.look(0, BLANK), [])
        self.assertEqual(shelf.synced(), [])
        self.assertEqual(shelf.look(0, BLANK), written(1, run(6, 5, 2, (9,))) + SYNC)
        self.assertEqual(shelf.holds(), [(5, 2, (9,))])

    def test_dropped_behind_the_trim(self):
        shelf = shelf_with(5, sectors=8)
        shelf.look(0, BLANK)
        shelf.synced()
        self.assertEqual(shelf.letter("p0", ("drop", 5)), [("write", 1, mark(4))] + SYNC)
        self.assertEqual(shelf.synced(), [])
        self.assertEqual(shelf.synced(), sends(("dropped", 5)))

    def test_several_old_runs(self):
        disk = dict(enumerate(run(1, 5, 1, (1,)) + run(2, 5, 1, (1,)) + run(3, 6, 1, (1,))))
        shelf = new_shelf(8, disk)
        self.assertEqual(shelf.look(1, BLANK), written(3, run(4, 5, 1, (1,))) + SYNC)
        self.assertEqual(shelf.synced(), [("write", 0, mark(5)), ("write", 1, mark(6))] + SYNC)


class KindsTest(unittest.TestCase):

    def test_what_is_handed_in_stays_as_it_is(self):
        sectors = dict(enumerate(run(1, 5, 1, (1,))))
        kept = copy.deepcopy(sectors)
        shelf = new_shelf(8, sectors)
        shelf.letter("p0", ("put", 6, 1, LONG))
        shelf.letter("p0", ("drop", 5))
        shelf.synced()
        self.assertEqual(sectors, kept)
        sectors.clear()
        self.assertEqual(shelf.holds(), [(6, 1, LONG)])

    def test_what_is_returned_is_new(self):
        shelf = shelf_with(5)
        for call in (
            lambda: shelf.holds(), lambda: shelf.letter("p0", ("list",)), lambda: shelf.letter("p0", ("get", 5)),
            lambda: shelf.letter("p0", ("hello",)), lambda: shelf.synced(), lambda: shelf.tick(),
            lambda: shelf.look(0, run(1, 5, 1, (1, 2, 3))[0]), lambda: shelf.letter("p0", ("put", 5, 1, (1, 2, 3))),
        ):
            found = call()
            self.assertIsInstance(found, list)
            expected = list(found)
            found.append("more")
            self.assertEqual(call(), expected)

    def test_writes_may_be_changed_by_who_gets_them(self):
        shelf = new_shelf(8)
        shelf.letter("p0", ("put", 5, 1, (1,))).clear()
        shelf.look(0, BLANK).clear()
        self.assertEqual(shelf.waiting(), 2)
        self.assertEqual(shelf.synced(), sends(("kept", 5, 1)))

    def test_kinds(self):
        shelf = shelf_with(5)
        self.assertIs(shelf.is_safe(5), True)
        self.assertIs(shelf.is_safe(6), False)
        self.assertEqual(shelf.holds(), [(5, 1, (1, 2, 3))])
        self.assertIsInstance(shelf.holds()[0][2], tuple)


class ExampleTest(unittest.TestCase):

    def test_it_as_it_stands(self):
        disk = Disk()
        shelf = Shelf("s0", config_of(8), disk.stored)
        effects = shelf.letter("p0", ("put", 5, 2, LONG))
        self.assertEqual(effects, written(0, run(1, 5, 2, LONG)) + SYNC)
        self.assertEqual(shelf.letter("p0", ("get", 5)), sends(("piece", 5, 2, LONG)))
        self.assertEqual(shelf.letter("p0", ("list",)), sends(("have", ())))
        disk.perform(effects)
        crashed = disk.copied()
        disk.finish()
        self.assertEqual(shelf.synced(), sends(("kept", 5, 2)))
        self.assertEqual(shelf.letter("p0", ("list",)), sends(("have", (5,))))
        crashed.crash([0, 1])
        again = Shelf("s0", config_of(8), crashed.stored)
        self.assertEqual(again.letter("p0", ("get", 5)), sends(("missing", 5)))
        self.assertEqual(again.letter("p0", ("put", 1, 0, (1,)))[0], ("write", 0, run(2, 1, 0, (1,))[0]))


if __name__ == "__main__":
    unittest.main()
