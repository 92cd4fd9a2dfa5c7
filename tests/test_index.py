"""Part 4: the index of a shelf (4.1 to 4.7, 4.16)."""

import copy
import unittest

from cairn.errors import AlreadyHeld, FragmentTooLong, NotHeld, ShelfFull
from cairn.index import Index
from support import BLANK, digits, half, random_octets, replaced, sector, seeded, torn


def size_of(length):
    """How many sectors a fragment occupies (4.2)."""
    return 1 if length <= 15 else 1 + (length - 15 + 20) // 21


def run(stamp, ticket, index, octets, size=None, spare=0, zero=0):
    """The sectors of a run (4.3)."""
    octets = list(octets)
    head = [4, *digits(ticket, 3), index, len(octets) if size is None else size, zero]
    padded = octets + [spare] * (15 + 21 * (size_of(len(octets)) - 1) - len(octets))
    parts = [head + padded[:15]] + [[5] + padded[at:at + 21] for at in range(15, len(padded), 21)]
    return [sector(stamp + k, part) for k, part in enumerate(parts)]


def free_mark(stamp):
    return sector(stamp, [6] + [0] * 21)


def written(start, sectors):
    return [("write", start + k, found) for k, found in enumerate(sectors)]


def laid(runs):
    """A disk with runs, given by their first places."""
    disk = {}
    for start, sectors in runs.items():
        disk.update({start + k: found for k, found in enumerate(sectors)})
    return disk


def after(disk, effects):
    found = dict(disk)
    found.update({place: written_sector for _, place, written_sector in effects})
    return found


def state(index):
    tickets = index.tickets()
    return (
        [(ticket, index.fragment(ticket), index.runs(ticket)) for ticket in tickets], index.free(), index.hurt(),
    )


class IndexCase(unittest.TestCase):

    def refuse(self, index, error, method, *arguments):
        """A call raises, and nothing changes, not even the next stamp."""
        before, kept = state(index), copy.deepcopy(arguments)
        with self.assertRaises(error):
            getattr(index, method)(*arguments)
        self.assertEqual(state(index), before)
        self.assertEqual(arguments, kept)


class PutTest(IndexCase):

    def test_an_empty_disk(self):
        for count in (4, 8, 4096):
            index = Index(count, {})
            self.assertEqual(state(index), ([], count, False))
            self.assertIsNone(index.fragment(1))
            self.assertEqual(index.runs(1), [])

    def test_writes_octet_by_octet(self):
        effects = Index(8, {}).put(66051, 200, list(range(50, 70)))
        first = [4, 1, 2, 3, 200, 20, 0] + list(range(50, 65))
        second = [5, 65, 66, 67, 68, 69] + [0] * 16
        self.assertEqual(effects, [
            ("write", 0, half(1, first[:11]) + half(1, first[11:])),
            ("write", 1, half(2, second[:11]) + half(2, second[11:])),
        ])

    def test_fragments_of_all_lengths(self):
        rng = seeded(1)
        for length in (1, 2, 14, 15, 16, 17, 35, 36, 37, 57, 58, 199, 200):
            octets = random_octets(rng, length)
            for given in (octets, tuple(octets)):
                kept = list(octets)
                index = Index(20, {})
                self.assertEqual(index.put(9, 3, given), written(0, run(1, 9, 3, octets)))
                self.assertEqual(list(given), kept)
                self.assertEqual(state(index), ([(9, (3, octets), [(0, size_of(length))])], 20 - size_of(length), False))

    def test_bounds_of_tickets_and_indexes(self):
        index, stamp = Index(20, {}), 1
        for place, (ticket, which) in enumerate(((1, 0), (255, 255), (256, 1), (65536, 9), (16777215, 24))):
            self.assertEqual(index.put(ticket, which, [7]), written(place, run(stamp, ticket, which, [7])))
            self.assertEqual(index.fragment(ticket), (which, [7]))
            stamp += 1
        self.assertEqual(index.tickets(), [1, 255, 256, 65536, 16777215])

    def test_tickets_ascend(self):
        index = Index(8, {})
        for ticket in (5, 3, 9, 1):
            index.put(ticket, 0, [ticket])
        self.assertEqual(index.tickets(), [1, 3, 5, 9])

    def test_no_octets_and_too_many(self):
        index = Index(20, {})
        index.put(1, 0, [1])
        for octets in ([], [1] * 201, (), (2,) * 500):
            # Also if the ticket is held, and if there is no room.
            self.refuse(index, FragmentTooLong, "put", 2, 0, octets)
            self.refuse(index, FragmentTooLong, "put", 1, 0, octets)
            full = Index(4, {})
            full.put(1, 0, [1] * 78)
            self.assertEqual(full.free(), 0)
            self.refuse(full, FragmentTooLong, "put", 1, 0, octets)
            self.refuse(full, FragmentTooLong, "put", 2, 0, octets)

    def test_a_ticket_that_is_held(self):
        index = Index(4, {})
        index.put(1, 0, [1] * 16)
        for octets in ([1] * 16, [2], [1] * 200):
            # Also if there is no room.
            self.refuse(index, AlreadyHeld, "put", 1, 0, octets)

    def test_a_full_shelf(self):
        index = Index(4, {})
        self.refuse(index, ShelfFull, "put", 1, 0, [1] * 79)
        index.put(1, 0, [1] * 16)
        self.refuse(index, ShelfFull, "put", 2, 0, [1] * 37)
        self.refuse(index, ShelfFull, "put", 2, 0, [1] * 200)
        # No stamp was given out.
        self.assertEqual(index.put(2, 0, [1] * 36), written(2, run(3, 2, 0, [1] * 36)))
        self.refuse(index, ShelfFull, "put", 3, 0, [1])

    def test_a_fragment_that_fills_the_disk(self):
        index = Index(4, {})
        self.assertEqual(len(index.put(1, 0, [1] * 78)), 4)
        self.assertEqual(index.free(), 0)

    def test_the_lowest_places_that_are_long_enough(self):
        index = Index(12, {})
        for ticket in range(1, 13):
            index.put(ticket, 0, [ticket])
        for ticket in (2, 4, 5, 8, 9, 10, 12):
            index.drop(ticket)
        # Free now: 1, 3 4, 7 8 9, 11.
        stamp = 20
        for ticket, length, start in ((20, 36, 3), (21, 37, 7), (22, 1, 1), (23, 1, 11)):
            octets = [ticket] * length
            self.assertEqual(index.put(ticket, 1, octets), written(start, run(stamp, ticket, 1, octets)))
            stamp += size_of(length)
        self.assertEqual(index.free(), 0)

    def test_a_run_does_not_go_around_the_end(self):
        index = Index(4, {})
        for ticket in (1, 2, 3):
            index.put(ticket, 0, [1])
        index.drop(1)
        self.assertEqual(index.free(), 2)
        self.refuse(index, ShelfFull, "put", 4, 0, [1] * 16)

    def test_free_places_count_not_what_lies_there(self):
        disk = {0: sector(9, [1, 2]), 1: torn(sector(10, [5]), BLANK), 2: replaced(BLANK, 4)}
        index = Index(4, disk)
        self.assertEqual(state(index), ([], 4, True))
        self.assertEqual(index.put(1, 0, [1] * 36), written(0, run(11, 1, 0, [1] * 36)))

    def test_results_are_new(self):
        octets = [1, 2]
        index = Index(8, {})
        effects = index.put(1, 0, octets)
        octets.append(3)
        effects.clear()
        self.assertEqual(index.fragment(1), (0, [1, 2]))
        index.fragment(1)[1].append(4)
        index.tickets().append(5)
        index.runs(1).append((7, 1))
        self.assertEqual(state(index), ([(1, (0, [1, 2]), [(0, 1)])], 7, False))
        rewritten = index.rewrite(1)
        self.assertEqual(rewritten, written(1, run(2, 1, 0, [1, 2])))
        rewritten.clear()
        index.trim(1).clear()
        self.assertEqual(index.runs(1), [(1, 1)])

    def test_the_dict_of_sectors_stays_as_it_is(self):
        disk = laid({0: run(1, 5, 2, [1] * 20), 3: run(3, 6, 2, [2])})
        kept = copy.deepcopy(disk)
        index = Index(8, disk)
        index.put(7, 0, [3])
        index.rewrite(5)
        index.trim(5)
        index.drop(6)
        self.assertEqual(disk, kept)
        disk[4] = sector(90, [1])
        disk.clear()
        self.assertEqual(index.tickets(), [5, 7])
        self.assertEqual(index.spoilt(2, kept.get(2, BLANK)), 7)


class RewriteTest(IndexCase):

    def test_rewrite(self):
        index = Index(9, {})
        octets = list(range(20))
        index.put(5, 2, octets)
        index.put(6, 1, [9])
        self.assertEqual(index.rewrite(5), written(3, run(4, 5, 2, octets)))
        self.assertEqual(index.runs(5), [(0, 2), (3, 2)])
        self.assertEqual(index.fragment(5), (2, octets))
        self.assertEqual(index.rewrite(5), written(5, run(6, 5, 2, octets)))
        self.assertEqual(index.runs(5), [(0, 2), (3, 2), (5, 2)])
        self.assertEqual(index.rewrite(6), written(7, run(8, 6, 1, [9])))
        self.assertEqual(index.free(), 1)

    def test_the_lowest_places_that_are_long_enough(self):
        index = Index(8, {})
        index.put(1, 0, [1])
        index.put(2, 0, [2] * 16)
        index.put(3, 0, [3])
        index.drop(1)
        self.assertEqual([place for _, place, _ in index.rewrite(2)], [4, 5])
        self.assertEqual([place for _, place, _ in index.rewrite(3)], [0])
        self.assertEqual(index.runs(3), [(0, 1), (3, 1)])

    def test_not_held(self):
        index = Index(4, {})
        index.put(1, 0, [1] * 78)
        for ticket in (0, 2, 16777215):
            # Also if there is no room.
            self.refuse(index, NotHeld, "rewrite", ticket)

    def test_a_full_shelf(self):
        index = Index(5, {})
        index.put(1, 0, [1] * 37)
        self.refuse(index, ShelfFull, "rewrite", 1)
        index.put(2, 0, [1])
        self.assertEqual(index.rewrite(2), written(4, run(5, 2, 0, [1])))
        self.refuse(index, ShelfFull, "rewrite", 2)


class DropTest(IndexCase):

    def test_drop(self):
        index = Index(8, {})
        index.put(5, 2, [1] * 20)
        index.put(6, 2, [2])
        self.assertEqual(index.drop(5), [("write", 0, free_mark(4))])
        self.assertEqual(state(index), ([(6, (2, [2]), [(2, 1)])], 7, False))
        self.assertIsNone(index.fragment(5))
        self.assertEqual(index.runs(5), [])
        self.assertEqual(index.put(5, 3, [7] * 16), written(0, run(5, 5, 3, [7] * 16)))

    def test_a_free_mark_octet_by_octet(self):
        index = Index(4, {})
        index.put(5, 2, [1])
        mark = half(2, [6] + [0] * 10) + half(2, [0] * 11)
        self.assertEqual(index.drop(5), [("write", 0, mark)])

    def test_all_runs_in_the_order_of_their_places(self):
        index = Index(8, {})
        index.put(1, 0, [1])
        index.put(5, 2, [5] * 16)
        index.rewrite(5)
        index.drop(1)
        index.put(2, 0, [2])
        index.drop(2)
        index.put(3, 1, [3])
        index.rewrite(3)
        index.rewrite(3)
        # The newest run is not the last one on the disk.
        index.drop(5)
        self.assertEqual(index.rewrite(3)[0][1], 1)
        self.assertEqual(index.runs(3), [(0, 1), (1, 1), (5, 1), (6, 1)])
        stamp = index.rewrite(3)[0][2][3] + 1
        self.assertEqual(index.runs(3), [(0, 1), (1, 1), (2, 1), (5, 1), (6, 1)])
        expected = [("write", place, free_mark(stamp + k)) for k, place in enumerate((0, 1, 2, 5, 6))]
        self.assertEqual(index.drop(3), expected)
        self.assertEqual(state(index), ([], 8, False))

    def test_not_held(self):
        index = Index(4, {})
        index.put(1, 0, [1])
        for ticket in (0, 2):
            self.refuse(index, NotHeld, "drop", ticket)
        index.drop(1)
        self.refuse(index, NotHeld, "drop", 1)

    def test_a_dropped_fragment_stays_away(self):
        index = Index(4, {})
        disk = after({}, index.put(1, 0, [1] * 16))
        disk = after(disk, index.rewrite(1))
        disk = after(disk, index.drop(1))
        again = Index(4, disk)
        self.assertEqual(state(again), ([], 4, False))
        self.assertEqual(again.put(2, 0, [1]), written(0, run(7, 2, 0, [1])))


class TrimTest(IndexCase):

    def test_one_run(self):
        index = Index(4, {})
        index.put(1, 0, [1])
        before = state(index)
        self.assertEqual(index.trim(1), [])
        self.assertEqual(state(index), before)

    def test_all_runs_but_the_newest(self):
        index = Index(8, {})
        index.put(1, 0, [1])
        index.put(5, 2, [5] * 16)
        index.rewrite(5)
        index.rewrite(5)
        index.drop(1)
        # Stamps up to 8 are given out.
        expected = [("write", 1, free_mark(9)), ("write", 3, free_mark(10))]
        self.assertEqual(index.trim(5), expected)
        self.assertEqual(state(index), ([(5, (2, [5] * 16), [(5, 2)])], 6, False))
        self.assertEqual(index.trim(5), [])

    def test_the_newest_run_may_come_first(self):
        index = Index(8, {})
        index.put(1, 0, [1])
        index.put(5, 2, [5])
        index.rewrite(5)
        index.drop(1)
        index.rewrite(5)
        self.assertEqual(index.runs(5), [(0, 1), (1, 1), (2, 1)])
        self.assertEqual(index.trim(5), [("write", 1, free_mark(6)), ("write", 2, free_mark(7))])
        self.assertEqual(index.runs(5), [(0, 1)])

    def test_not_held(self):
        index = Index(4, {})
        index.put(1, 0, [1])
        for ticket in (0, 2):
            self.refuse(index, NotHeld, "trim", ticket)

    def test_a_new_index_trims_what_it_finds(self):
        disk = laid({4: run(9, 5, 2, [5] * 16), 0: run(20, 5, 2, [5] * 16), 2: run(3, 5, 2, [5] * 16)})
        index = Index(8, disk)
        self.assertEqual(index.runs(5), [(0, 2), (2, 2), (4, 2)])
        self.assertEqual(index.trim(5), [("write", 2, free_mark(22)), ("write", 4, free_mark(23))])


class ReadTest(IndexCase):

    def test_a_life_goes_on_in_a_new_index(self):
        rng = seeded(2)
        index, disk, held = Index(60, {}), {}, {}
        for ticket in range(1, 60):
            octets = random_octets(rng, rng.randrange(1, 60))
            disk = after(disk, index.put(ticket, ticket % 7, octets))
            held[ticket] = (ticket % 7, octets)
            if ticket % 3 == 0:
                disk = after(disk, index.rewrite(ticket))
            if ticket % 6 == 0:
                disk = after(disk, index.trim(ticket))
            if len(held) > 6:
                dropped = rng.choice(sorted(held))
                del held[dropped]
                disk = after(disk, index.drop(dropped))
            again = Index(60, disk)
            self.assertEqual(state(again), state(index))
            self.assertEqual({found: again.fragment(found) for found in again.tickets()}, held)
            if ticket % 5 == 0:
                index = again

    def test_other_octets_are_not_looked_at(self):
        disk = laid({1: run(1, 5, 2, range(20), spare=9, zero=77)})
        self.assertEqual(state(Index(4, disk)), ([(5, (2, list(range(20))), [(1, 2)])], 2, False))

    def test_bounds_of_tickets_and_indexes(self):
        for ticket in (1, 255, 256, 65535, 65536, 66051, 16777215):
            for which in (0, 24, 255):
                index = Index(4, laid({2: run(65536, ticket, which, [9])}))
                self.assertEqual(state(index), ([(ticket, (which, [9]), [(2, 1)])], 3, False))
                self.assertEqual(index.rewrite(ticket), written(0, run(65537, ticket, which, [9])))

    def test_sectors_beyond_the_disk_do_not_count(self):
        disk = laid({0: run(1, 5, 2, [1]), 4: run(50, 6, 2, [1]), 3: run(2, 7, 2, [1] * 16)})
        disk[9] = replaced(BLANK, 1)
        index = Index(4, disk)
        self.assertEqual(state(index), ([(5, (2, [1]), [(0, 1)])], 3, False))
        self.assertEqual(index.put(8, 0, [1]), written(1, run(3, 8, 0, [1])))

    def test_several_runs_of_one_ticket(self):
        one, other, third = run(5, 9, 1, [1]), run(8, 9, 2, [2] * 16), run(6, 9, 3, [3])
        for runs in ({0: one, 2: other, 5: third}, {5: one, 2: other, 0: third}, {0: third, 2: one, 4: other}):
            index = Index(8, laid(runs))
            self.assertEqual(index.fragment(9), (2, [2] * 16))
            self.assertEqual(index.runs(9), sorted((start, len(found)) for start, found in runs.items()))
            self.assertEqual(index.free(), 4)
            newest = [start for start, found in runs.items() if found == other][0]
            effects = index.rewrite(9)
            self.assertEqual([found for _, _, found in effects], run(10, 9, 2, [2] * 16))
            index.trim(9)
            self.assertEqual(index.runs(9), [(effects[0][1], 2)])
            self.assertNotEqual(newest, effects[0][1])

    def test_an_incomplete_run_beside_a_complete_one(self):
        index = Index(8, laid({0: run(1, 5, 2, [1] * 16), 2: run(3, 5, 3, [2] * 16)[:1]}))
        self.assertEqual(state(index), ([(5, (2, [1] * 16), [(0, 2)])], 6, False))

    def test_incomplete_runs(self):
        first, second = run(2, 5, 2, range(20))
        data, more = list(first[4:15] + first[20:31]), list(second[4:15] + second[20:31])
        self.assertEqual(Index(4, {1: first, 2: second}).tickets(), [5])
        for wrong in (
            [torn(first, BLANK), second], [first, torn(second, BLANK)], [BLANK, second], [first, BLANK],
            [replaced(first, 18), second], [first, replaced(second, 3)], [second, first],
            # The octet at the beginning of a sector.
            [sector(2, [5] + data[1:]), second], [sector(2, [6] + data[1:]), second], [sector(2, [1] + data[1:]), second],
            [first, sector(3, [4] + more[1:])], [first, sector(3, [6] + more[1:])], [first, sector(3, [0] + more[1:])],
            # The stamp of a further sector.
            [first, sector(4, more)], [first, sector(2, more)], [first, sector(1, more)],
            # The ticket and the length.
            [sector(2, [4, 0, 0, 0] + data[4:]), second], [sector(2, data[:5] + [0] + data[6:]), second],
            [sector(2, data[:5] + [201] + data[6:]), second], [sector(2, data[:5] + [37] + data[6:]), second],
        ):
            index = Index(4, {1: wrong[0], 2: wrong[1]})
            self.assertEqual(index.tickets(), [])
            self.assertEqual(index.free(), 4)

    def test_lengths_of_runs(self):
        for length in (1, 15, 16, 36, 37, 200):
            index = Index(12, laid({1: run(1, 5, 2, [1] * length)}))
            self.assertEqual(index.runs(5), [(1, size_of(length))])
            self.assertEqual(index.fragment(5), (2, [1] * length))
        # A length from 201 on is none, even if the sectors are there.
        for length in (201, 255):
            self.assertEqual(Index(20, laid({1: run(1, 5, 2, [1] * length)})).tickets(), [])

    def test_a_run_that_would_end_beyond_the_disk(self):
        sectors = run(1, 5, 2, [1] * 37)
        self.assertEqual(Index(4, laid({1: sectors})).tickets(), [5])
        self.assertEqual(Index(4, {2: sectors[0], 3: sectors[1], 0: sectors[2]}).tickets(), [])
        self.assertEqual(Index(4, {3: sectors[0], 0: sectors[1], 1: sectors[2]}).tickets(), [])

    def test_stamps_go_on_behind_the_greatest_good_half(self):
        for other, stamp in (
            (torn(sector(30, []), BLANK), 31), (BLANK[16:] + sector(30, [])[16:], 31), (free_mark(30), 31),
            (replaced(sector(30, []), 2), 31), (replaced(replaced(sector(30, []), 2), 20), 3),
        ):
            disk = laid({0: run(1, 5, 2, [1] * 16)})
            disk[3] = other
            self.assertEqual(Index(4, disk).put(6, 0, [1]), written(2, run(stamp, 6, 0, [1])))

    def test_hurt(self):
        disk = laid({0: run(1, 5, 2, [1] * 16)})
        self.assertIs(Index(4, disk).hurt(), False)
        self.assertIs(Index(4, {0: torn(sector(9, []), BLANK)}).hurt(), False)
        for place in range(4):
            for cell in (0, 15, 16, 31):
                wrong = dict(disk)
                wrong[place] = replaced(wrong.get(place, BLANK), cell)
                index = Index(4, wrong)
                self.assertIs(index.hurt(), True)
                self.assertEqual(index.tickets(), [] if place < 2 else [5])


class SpoiltTest(IndexCase):

    def test_changed_and_unchanged_sectors(self):
        index = Index(8, {})
        effects = index.put(5, 2, [1] * 20) + index.put(6, 1, [2])
        tickets = {0: 5, 1: 5, 2: 6}
        for _, place, found in effects:
            self.assertEqual(index.spoilt(place, found), 0)
            for cell in range(32):
                self.assertEqual(index.spoilt(place, replaced(found, cell)), tickets[place])
            self.assertEqual(index.spoilt(place, BLANK), tickets[place])
            self.assertEqual(index.spoilt(place, torn(found, BLANK)), tickets[place])

    def test_free_places(self):
        index = Index(4, {3: sector(9, [1])})
        index.put(5, 2, [1])
        for place in (1, 2, 3):
            for found in (BLANK, sector(9, [1]), sector(1, [4]), replaced(BLANK, 1)):
                self.assertEqual(index.spoilt(place, found), 0)
        index.drop(5)
        for found in (BLANK, free_mark(10), run(10, 5, 2, [1])[0]):
            self.assertEqual(index.spoilt(0, found), 0)

    def test_what_was_read_counts(self):
        sectors = run(4, 5, 2, [1] * 20, spare=7)
        index = Index(8, laid({3: sectors}))
        for k, found in enumerate(sectors):
            self.assertEqual(index.spoilt(3 + k, found), 0)
            self.assertEqual(index.spoilt(3 + k, replaced(found, 30)), 5)

    def test_what_was_written_last_counts(self):
        index = Index(4, {})
        old = index.put(5, 2, [1])[0][2]
        index.drop(5)
        new = index.put(6, 2, [2])[0][2]
        self.assertEqual(index.spoilt(0, new), 0)
        self.assertEqual(index.spoilt(0, old), 6)
        self.assertEqual(index.spoilt(0, free_mark(2)), 6)

    def test_every_run_of_a_ticket(self):
        index = Index(8, {})
        effects = index.put(5, 2, [1] * 16) + index.rewrite(5)
        for _, place, found in effects:
            self.assertEqual(index.spoilt(place, replaced(found, 3)), 5)
        index.trim(5)
        self.assertEqual([index.spoilt(place, replaced(found, 3)) for _, place, found in effects], [0, 0, 5, 5])

    def test_nothing_changes(self):
        index = Index(4, {})
        effects = index.put(5, 2, [1])
        before = state(index)
        index.spoilt(0, BLANK)
        self.assertEqual(state(index), before)
        self.assertEqual(index.spoilt(0, effects[0][2]), 0)
        self.assertEqual(index.spoilt(0, BLANK), 5)


class ExampleTest(IndexCase):

    def test_example(self):
        index = Index(8, {})
        octets = list(range(20))
        effects = index.put(5, 2, octets)
        self.assertEqual(effects, written(0, run(1, 5, 2, octets)))
        # The write to place 1 is lost.
        again = Index(8, after({}, effects[:1]))
        self.assertEqual(again.tickets(), [])
        self.assertEqual(again.put(6, 0, [1]), written(0, run(2, 6, 0, [1])))


if __name__ == "__main__":
    unittest.main()
