"""Part 3: the diary (3.8 to 3.18, 3.22)."""

import copy
import unittest

from cairn.diary import Diary
from cairn.errors import DiaryFull, NoSuchRecord, RecordTooLong
from support import BLANK, digits, half, random_octets, replaced, sector, seeded, torn


def size_of(length):
    """How many sectors a record occupies (3.12)."""
    return 1 if length <= 7 else 1 + (length - 7 + 20) // 21


def record(stamp, number, octets, before=0, base=None, base_stamp=None, size=None, spare=0):
    """The sectors of a record (3.13). Without a base the record is its own base."""
    octets = list(octets)
    head = [1, *digits(number, 3), *digits(len(octets) if size is None else size, 2), *digits(before, 3)]
    head += [*digits(number if base is None else base, 3), *digits(stamp if base is None else base_stamp, 3)]
    padded = octets + [spare] * (7 + 21 * (size_of(len(octets)) - 1) - len(octets))
    parts = [head + padded[:7]] + [[2] + padded[at:at + 21] for at in range(7, len(padded), 21)]
    return [sector(stamp + k, part) for k, part in enumerate(parts)]


def written(first, count, start, sectors):
    """The effects that write sectors from a position of the ring on."""
    return [("write", first + (start + k) % count, found) for k, found in enumerate(sectors)]


def on_disk(*effects, disk=None):
    """The sectors that lie on a disk after some effects."""
    found = dict(disk or {})
    for effect in effects:
        if effect[0] == "write":
            found[effect[1]] = effect[2]
    return found


def laid(*runs, first=0, count=8, start=0):
    """A disk with some records, one behind the other."""
    sectors = [found for run in runs for found in run]
    return on_disk(*written(first, count, start, sectors))


def state(diary):
    return diary.entries(), diary.next_number(), diary.base(), diary.free(), diary.hurt()


class EnterTest(unittest.TestCase):

    def test_an_empty_ring(self):
        for first, count in ((0, 4), (7, 4096), (100, 5)):
            self.assertEqual(state(Diary(first, count, {})), ([], 1, 1, count, False))
            self.assertEqual(Diary(first, count, {}).synced(), 0)

    def test_writes_octet_by_octet(self):
        diary = Diary(0, 4, {})
        number, effects = diary.enter([50, 51])
        self.assertEqual(number, 1)
        data = [1, 0, 0, 1, 0, 2, 0, 0, 0, 0, 0, 1, 0, 0, 1, 50, 51, 0, 0, 0, 0, 0]
        self.assertEqual(effects, [("write", 0, half(1, data[:11]) + half(1, data[11:]))])
        number, effects = diary.enter(list(range(60, 69)))
        self.assertEqual(number, 2)
        data = [1, 0, 0, 2, 0, 9, 0, 0, 1, 0, 0, 1, 0, 0, 1, 60, 61, 62, 63, 64, 65, 66]
        rest = [2, 67, 68] + [0] * 19
        self.assertEqual(effects, [
            ("write", 1, half(2, data[:11]) + half(2, data[11:])),
            ("write", 2, half(3, rest[:11]) + half(3, rest[11:])),
        ])

    def test_records_of_all_lengths(self):
        rng = seeded(1)
        for length in (0, 1, 6, 7, 8, 9, 27, 28, 29, 49, 50, 255, 256, 257, 594, 595, 599, 600):
            diary = Diary(3, 40, {})
            diary.enter([])
            octets = random_octets(rng, length)
            kept = list(octets)
            number, effects = diary.enter(octets)
            expected = record(2, 2, octets, before=1, base=1, base_stamp=1)
            self.assertEqual((number, effects), (2, written(3, 40, 1, expected)))
            self.assertEqual(octets, kept)
            self.assertEqual(diary.free(), 39 - size_of(length))
            self.assertEqual(diary.entries(), [(1, []), (2, octets)])

    def test_numbers_sizes_and_stamps_of_several_octets(self):
        disk = laid(record(70000, 66000, [4]), count=40)
        diary = Diary(0, 40, disk)
        self.assertEqual(diary.entries(), [(66000, [4])])
        octets = random_octets(seeded(2), 600)
        expected = record(70001, 66001, octets, before=70000, base=66000, base_stamp=70000)
        self.assertEqual(diary.enter(octets), (66001, written(0, 40, 1, expected)))

    def test_a_record_too_long(self):
        for length in (601, 602, 1000):
            for count, entered in ((40, 0), (4, 4)):
                diary = Diary(0, count, {})
                for _ in range(entered):
                    diary.enter([])
                before = state(diary)
                octets = [1] * length
                # Also where there is no room.
                with self.assertRaises(RecordTooLong):
                    diary.enter(octets)
                self.assertEqual(octets, [1] * length)
                self.assertEqual(state(diary), before)

    def test_a_full_ring(self):
        diary = Diary(0, 4, {})
        for _ in range(4):
            diary.enter([])
        self.assertEqual(diary.free(), 0)
        before = state(diary)
        for octets in ([], [1] * 8, [1] * 600):
            with self.assertRaises(DiaryFull):
                diary.enter(octets)
        self.assertEqual(state(diary), before)

    def test_a_refused_record_takes_no_number_and_no_stamp(self):
        diary = Diary(0, 4, {})
        diary.enter([1])
        for octets in ([0] * 50, [0] * 600, [0] * 601):
            with self.assertRaises((DiaryFull, RecordTooLong)):
                diary.enter(octets)
        expected = record(2, 2, [0] * 49, before=1, base=1, base_stamp=1)
        self.assertEqual(diary.enter([0] * 49), (2, written(0, 4, 1, expected)))
        self.assertEqual(diary.free(), 0)

    def test_around_the_end_of_the_ring(self):
        diary = Diary(10, 5, {})
        diary.enter([1])
        diary.enter([2])
        diary.enter([3])
        diary.forget(3)
        diary.enter([4])
        diary.flush()
        diary.synced()
        self.assertEqual(diary.free(), 3)
        octets = list(range(29))
        expected = record(5, 5, octets, before=4, base=3, base_stamp=3)
        number, effects = diary.enter(octets)
        self.assertEqual((number, effects), (5, written(10, 5, 4, expected)))
        self.assertEqual([place for _, place, _ in effects], [14, 10, 11])
        with self.assertRaises(DiaryFull):
            diary.enter([])

    def test_a_record_that_fills_the_ring(self):
        diary = Diary(2, 4, {})
        number, effects = diary.enter([9] * 70)
        self.assertEqual((number, effects), (1, written(2, 4, 0, record(1, 1, [9] * 70))))
        again = Diary(2, 4, on_disk(*effects))
        self.assertEqual(state(again), ([(1, [9] * 70)], 2, 1, 0, False))
        with self.assertRaises(DiaryFull):
            again.enter([])

    def test_entries_are_new_and_records_are_copied(self):
        diary = Diary(0, 8, {})
        octets = [1, 2]
        _, effects = diary.enter(octets)
        octets.append(3)
        effects.clear()
        self.assertEqual(diary.entries(), [(1, [1, 2])])
        found = diary.entries()
        found[0][1].append(4)
        found.append((2, []))
        self.assertEqual(diary.entries(), [(1, [1, 2])])
        diary.flush().append("more")
        self.assertEqual(diary.flush(), [("sync",)])

    def test_the_dict_of_sectors_stays_as_it_is(self):
        disk = laid(record(1, 1, [5]), record(2, 2, [6], before=1, base=1, base_stamp=1))
        kept = copy.deepcopy(disk)
        diary = Diary(0, 8, disk)
        diary.enter([7])
        diary.forget(2)
        diary.flush()
        diary.synced()
        self.assertEqual(disk, kept)
        disk.clear()
        self.assertEqual(diary.entries(), [(2, [6]), (3, [7])])


class FlushTest(unittest.TestCase):

    def test_flush_asks_for_a_sync(self):
        self.assertEqual(Diary(0, 4, {}).flush(), [("sync",)])

    def test_records_become_safe_in_order(self):
        diary = Diary(0, 8, {})
        diary.enter([1])
        diary.flush()
        diary.enter([2])
        diary.enter([3])
        diary.flush()
        diary.enter([4])
        self.assertEqual(diary.synced(), 1)
        self.assertEqual(diary.synced(), 3)
        self.assertEqual(diary.synced(), 3)
        diary.flush()
        diary.flush()
        self.assertEqual(diary.synced(), 4)
        self.assertEqual(diary.synced(), 4)

    def test_synced_without_a_flush(self):
        diary = Diary(0, 4, {})
        self.assertEqual(diary.synced(), 0)
        diary.enter([1])
        diary.forget(2)
        before = state(diary)
        self.assertEqual(diary.synced(), 0)
        self.assertEqual(state(diary), before)

    def test_a_synced_too_many_does_not_count_for_a_later_flush(self):
        diary = Diary(0, 4, {})
        diary.synced()
        diary.enter([1])
        diary.flush()
        self.assertEqual(diary.synced(), 1)

    def test_a_flush_without_records(self):
        diary = Diary(0, 4, {})
        diary.flush()
        diary.enter([])
        self.assertEqual(diary.synced(), 0)

    def test_records_that_were_read_are_safe(self):
        disk = laid(record(1, 5, [5]), record(2, 6, [6], before=1, base=5, base_stamp=1))
        diary = Diary(0, 8, disk)
        self.assertEqual(diary.synced(), 6)
        diary.flush()
        self.assertEqual(diary.synced(), 6)

    def test_the_last_safe_number_counts_below_the_base_too(self):
        diary = Diary(0, 8, {})
        diary.enter([1])
        diary.enter([2])
        diary.flush()
        diary.synced()
        diary.forget(3)
        self.assertEqual(diary.entries(), [])
        self.assertEqual(diary.synced(), 2)

    def test_nothing_is_safe_where_nothing_stands(self):
        # Record 6 leads to no base, so it does not stand.
        disk = laid(record(2, 6, [6], before=1, base=5, base_stamp=1))
        diary = Diary(0, 8, disk)
        self.assertEqual(diary.next_number(), 7)
        diary.flush()
        self.assertEqual(diary.synced(), 0)


class ForgetTest(unittest.TestCase):

    def filled(self, count=8):
        diary = Diary(0, count, {})
        for octet in (1, 2, 3):
            diary.enter([octet])
        return diary

    def test_bounds(self):
        for number in range(1, 5):
            diary = self.filled()
            self.assertIsNone(diary.forget(number))
            self.assertEqual(diary.base(), number)
            self.assertEqual(diary.entries(), [(k, [k]) for k in range(number, 4)])
        diary = self.filled()
        diary.forget(2)
        before = state(diary)
        for number in (1, 0, -1, 5, 6):
            with self.assertRaises(NoSuchRecord):
                diary.forget(number)
            self.assertEqual(state(diary), before)
        diary.forget(2)
        diary.forget(4)
        with self.assertRaises(NoSuchRecord):
            diary.forget(3)

    def test_an_empty_diary(self):
        diary = Diary(0, 4, {})
        diary.forget(1)
        for number in (0, 2):
            with self.assertRaises(NoSuchRecord):
                diary.forget(number)
        self.assertEqual(diary.enter([7]), (1, written(0, 4, 0, record(1, 1, [7]))))

    def test_later_records_carry_the_base(self):
        diary = self.filled()
        diary.forget(2)
        expected = record(4, 4, [4], before=3, base=2, base_stamp=2)
        self.assertEqual(diary.enter([4]), (4, written(0, 8, 3, expected)))
        diary.forget(4)
        expected = record(5, 5, [5], before=4, base=4, base_stamp=4)
        self.assertEqual(diary.enter([5]), (5, written(0, 8, 4, expected)))

    def test_a_record_that_is_its_own_base(self):
        diary = self.filled()
        diary.forget(4)
        self.assertEqual(diary.enter([4]), (4, written(0, 8, 3, record(4, 4, [4]))))

    def test_sectors_are_free_when_a_record_that_carries_the_base_is_safe(self):
        diary = self.filled()
        diary.flush()
        diary.synced()
        diary.forget(3)
        self.assertEqual(diary.free(), 5)
        # A sync behind which no record carries the base frees nothing.
        diary.flush()
        diary.synced()
        self.assertEqual(diary.free(), 5)
        diary.enter([4] * 8)
        self.assertEqual(diary.free(), 3)
        diary.flush()
        self.assertEqual(diary.free(), 3)
        diary.synced()
        self.assertEqual(diary.free(), 5)

    def test_the_base_that_the_safe_record_carries_counts(self):
        diary = self.filled()
        diary.forget(2)
        diary.enter([4])
        diary.flush()
        diary.forget(4)
        diary.enter([5])
        diary.flush()
        self.assertEqual(diary.free(), 3)
        self.assertEqual(diary.synced(), 4)
        self.assertEqual(diary.free(), 4)
        self.assertEqual(diary.synced(), 5)
        self.assertEqual(diary.free(), 6)

    def test_sectors_that_are_not_free_are_not_overwritten(self):
        diary = self.filled(4)
        diary.forget(4)
        _, effects = diary.enter([4])
        self.assertEqual([place for _, place, _ in effects], [3])
        with self.assertRaises(DiaryFull):
            diary.enter([])
        diary.flush()
        with self.assertRaises(DiaryFull):
            diary.enter([])
        diary.synced()
        _, effects = diary.enter([5] * 49)
        self.assertEqual([place for _, place, _ in effects], [0, 1, 2])
        self.assertEqual(diary.free(), 0)

    def test_records_below_the_base_do_not_stand_in_a_new_diary(self):
        diary = self.filled()
        disk = on_disk(*[effect for k in (1, 2, 3) for effect in written(0, 8, k - 1, record(
            k, k, [k], before=k - 1, base=1, base_stamp=1) if k > 1 else record(1, 1, [1]))])
        self.assertEqual(Diary(0, 8, disk).entries(), diary.entries())
        diary.forget(3)
        _, effects = diary.enter([4])
        again = Diary(0, 8, on_disk(*effects, disk=disk))
        self.assertEqual(state(again), ([(3, [3]), (4, [4])], 5, 3, 6, False))


class ReadTest(unittest.TestCase):
    """What a new Diary reads, on disks that the tests lay out themselves."""

    def setUp(self):
        self.one = record(1, 1, [11])
        self.two = record(2, 2, range(8), before=1, base=1, base_stamp=1)
        self.three = record(4, 3, [33], before=2, base=1, base_stamp=1)

    def read(self, *runs, count=8):
        return Diary(0, count, laid(*runs, count=count))

    def test_a_run_of_records(self):
        diary = self.read(self.one, self.two, self.three)
        self.assertEqual(state(diary), ([(1, [11]), (2, list(range(8))), (3, [33])], 4, 1, 4, False))
        expected = record(5, 4, [44], before=4, base=1, base_stamp=1)
        self.assertEqual(diary.enter([44]), (4, written(0, 8, 4, expected)))

    def test_a_life_goes_on_in_a_new_diary(self):
        rng = seeded(3)
        diary, disk, entered = Diary(4, 60, {}), {}, []
        for number in range(1, 30):
            octets = random_octets(rng, rng.randrange(40))
            found, effects = diary.enter(octets)
            self.assertEqual(found, number)
            disk = on_disk(*effects, disk=disk)
            entered.append((number, octets))
            if len(entered) > 10:
                del entered[:5]
                diary.forget(entered[0][0])
            diary.flush()
            diary.synced()
            self.assertEqual(diary.entries(), entered)
            again = Diary(4, 60, disk)
            # The base that was forgotten since the last record is not on the disk yet.
            self.assertEqual(again.entries()[-len(entered):], entered)
            self.assertEqual(again.next_number(), number + 1)
            if number in (5, 17):
                again.forget(diary.base())
                diary = again

    def test_other_sectors_do_not_count(self):
        disk = laid(self.one, self.two, self.three, first=5, start=6)
        disk.update({4: sector(900, [1]), 13: replaced(BLANK, 3), 0: sector(800, [2]), 50: sector(1, [1])})
        diary = Diary(5, 8, disk)
        self.assertEqual(state(diary), ([(1, [11]), (2, list(range(8))), (3, [33])], 4, 1, 4, False))
        expected = record(5, 4, [44], before=4, base=1, base_stamp=1)
        self.assertEqual(diary.enter([44]), (4, written(5, 8, 2, expected)))

    def test_unused_octets_are_not_looked_at(self):
        one = record(1, 1, [11], spare=9)
        two = record(2, 2, range(8), before=1, base=1, base_stamp=1, spare=200)
        self.assertEqual(self.read(one, two).entries(), [(1, [11]), (2, list(range(8)))])

    def test_stamps_go_on_behind_the_greatest_good_half(self):
        for other, stamp in (
            (torn(sector(30, []), BLANK), 31), (BLANK[16:] + sector(30, [])[16:], 31), (sector(30, [9]), 31),
            (replaced(sector(30, []), 2)[:16] + sector(30, [])[16:], 31), (replaced(sector(30, []), 2), 31),
            (replaced(replaced(sector(30, []), 2), 20), 5),
        ):
            disk = laid(self.one, self.two, self.three)
            disk[6] = other
            number, effects = Diary(0, 8, disk).enter([])
            self.assertEqual((number, effects[0][1]), (4, 4))
            self.assertEqual(effects[0][2], record(stamp, 4, [], before=4, base=1, base_stamp=1)[0])

    def test_incomplete_records(self):
        """Each way in which record 2 may be incomplete; record 1 stands alone then."""
        whole = self.two
        for wrong in (
            [torn(whole[0], BLANK), whole[1]], [whole[0], torn(whole[1], BLANK)], [BLANK, whole[1]],
            [whole[0], BLANK], [replaced(whole[0], 20), whole[1]], [whole[0], replaced(whole[1], 4)],
            # The octet at the beginning of a sector.
            [sector(2, [3] + list(whole[0][5:15]) + list(whole[0][20:31])), whole[1]],
            [sector(2, [2] + list(whole[0][5:15]) + list(whole[0][20:31])), whole[1]],
            [whole[0], sector(3, [1, 7])], [whole[0], sector(3, [0, 7])], [whole[0], sector(3, [3, 7])],
            # The stamp of a further sector.
            [whole[0], sector(4, [2, 7])], [whole[0], sector(2, [2, 7])], [whole[0], sector(1, [2, 7])],
        ):
            diary = self.read(self.one, wrong)
            self.assertEqual(diary.entries(), [(1, [11])])
            self.assertEqual((diary.next_number(), diary.base(), diary.free()), (2, 1, 7))

    def test_a_record_with_a_later_sector_of_another_stamp(self):
        long = record(2, 2, range(60), before=1, base=1, base_stamp=1)
        self.assertEqual(self.read(self.one, long).entries(), [(1, [11]), (2, list(range(60)))])
        for k in (1, 2, 3):
            wrong = list(long)
            wrong[k] = sector(2 + k + 1, list(long[k][4:15]) + list(long[k][20:31]))
            self.assertEqual(self.read(self.one, wrong).entries(), [(1, [11])])

    def test_lengths_that_are_too_great(self):
        for size, octets, stands in ((600, [5] * 600, True), (601, [5] * 601, False), (65535, [5] * 601, False)):
            long = record(2, 2, octets, before=1, base=1, base_stamp=1, size=size)
            diary = self.read(self.one, long, count=4000)
            self.assertEqual(len(diary.entries()), 2 if stands else 1)

    def test_a_record_longer_than_the_ring(self):
        long = record(1, 1, [5] * 70, size=71)
        self.assertEqual(state(self.read(long, count=4)), ([], 1, 1, 4, False))

    def test_the_number_of_a_predecessor(self):
        wrong = record(2, 3, [5], before=1, base=1, base_stamp=1)
        self.assertEqual(self.read(self.one, wrong).entries(), [(1, [11])])

    def test_a_number_that_stands_twice(self):
        # The second record 5 has no predecessor, though the first one ends where it begins.
        four, five = record(1, 4, [4]), record(2, 5, [5], before=1, base=4, base_stamp=1)
        for base_stamp in (1, 2):
            again = record(3, 5, [6], before=2, base=4, base_stamp=base_stamp)
            self.assertEqual(self.read(four, five, again).entries(), [(4, [4]), (5, [5])])

    def test_the_stamp_of_a_predecessor(self):
        for before in (0, 2, 257, 65537):
            wrong = record(2, 2, [5], before=before, base=1, base_stamp=1)
            self.assertEqual(self.read(self.one, wrong).entries(), [(1, [11])])

    def test_a_predecessor_ends_in_the_sector_before(self):
        two = record(2, 2, [5], before=1, base=1, base_stamp=1)
        self.assertEqual(self.read(self.one, two).entries(), [(1, [11]), (2, [5])])
        self.assertEqual(self.read(self.one, [BLANK], two).entries(), [(1, [11])])
        disk = laid(two, self.one)
        self.assertEqual(Diary(0, 8, disk).entries(), [(1, [11])])

    def test_a_predecessor_before_the_end_of_the_ring(self):
        disk = laid(self.one, self.two, self.three, start=7)
        self.assertEqual(len(Diary(0, 8, disk).entries()), 3)
        disk = laid(self.one, self.two, self.three, start=6)
        self.assertEqual(len(Diary(0, 8, disk).entries()), 3)

    def test_the_base_that_a_record_carries(self):
        for base, base_stamp in ((1, 2), (1, 0), (3, 2), (2, 1), (0, 1), (0, 0), (257, 1)):
            wrong = record(2, 2, [5], before=1, base=base, base_stamp=base_stamp)
            self.assertEqual(self.read(self.one, wrong).entries(), [(1, [11])])
        alone = record(2, 2, [5], before=1, base=2, base_stamp=2)
        self.assertEqual(self.read(self.one, alone).entries(), [(2, [5])])

    def test_a_record_between_that_is_not_anchored(self):
        # Record 2 names a wrong stamp for its base; record 3 leads through it to the base.
        two = record(2, 2, [5], before=1, base=1, base_stamp=9)
        three = record(3, 3, [6], before=2, base=1, base_stamp=1)
        self.assertEqual(self.read(self.one, two, three).entries(), [(1, [11]), (2, [5]), (3, [6])])

    def test_the_greatest_stamp_is_the_last_record(self):
        # An old life with greater numbers lies behind the records of the new one.
        old = [record(1, 50, [1]), record(2, 51, [2], before=1, base=50, base_stamp=1)]
        new = [record(8, 20, [3]), record(9, 21, [4], before=8, base=20, base_stamp=8)]
        for runs in (old + new, new + old):
            diary = self.read(*runs)
            self.assertEqual(state(diary), ([(20, [3]), (21, [4])], 22, 20, 6, False))

    def test_records_behind_the_last_one_do_not_stand(self):
        # Record 2 was lost; record 3 of that life is still there, and never comes back.
        disk = laid(self.one, [BLANK] * 2, self.three)
        diary = Diary(0, 8, disk)
        self.assertEqual(state(diary), ([(1, [11])], 2, 1, 7, False))
        _, effects = diary.enter(list(range(8)))
        self.assertEqual(effects[0][2], record(5, 2, range(8), before=1, base=1, base_stamp=1)[0])
        again = Diary(0, 8, on_disk(*effects, disk=disk))
        self.assertEqual(again.entries(), [(1, [11]), (2, list(range(8)))])

    def test_no_anchored_record(self):
        diary = self.read([BLANK], self.two, self.three)
        self.assertEqual(state(diary), ([], 4, 4, 8, False))
        self.assertEqual(diary.enter([7]), (4, written(0, 8, 0, record(5, 4, [7]))))

    def test_the_greatest_number_of_any_complete_record(self):
        diary = self.read([BLANK], record(9, 3, [], before=1, base=1, base_stamp=1), [BLANK],
                          record(4, 70, [], before=1, base=1, base_stamp=1))
        self.assertEqual(state(diary), ([], 71, 71, 8, False))
        _, effects = diary.enter([])
        self.assertEqual(effects, written(0, 8, 0, record(10, 71, [])))
        # An incomplete record does not count.
        diary = self.read([BLANK], self.three, record(9, 70, range(8), before=1, base=1, base_stamp=1)[:1])
        self.assertEqual(diary.next_number(), 4)

    def test_a_great_ring_without_a_base(self):
        runs = [record(k, k, [], before=k - 1, base=1, base_stamp=1) for k in range(2, 4097)]
        diary = self.read([BLANK], *runs, count=4096)
        self.assertEqual(state(diary), ([], 4097, 4097, 4096, False))

    def test_a_great_ring(self):
        runs = [record(1, 1, [])]
        runs += [record(k, k, [], before=k - 1, base=1, base_stamp=1) for k in range(2, 4097)]
        diary = self.read(*runs, count=4096)
        self.assertEqual(len(diary.entries()), 4096)
        self.assertEqual(diary.free(), 0)

    def test_hurt(self):
        disk = laid(self.one, self.two, self.three)
        self.assertIs(Diary(0, 8, disk).hurt(), False)
        for place in range(8):
            for index in (0, 5, 15, 16, 31):
                wrong = dict(disk)
                wrong[place] = replaced(wrong.get(place, BLANK), index)
                diary = Diary(0, 8, wrong)
                self.assertIs(diary.hurt(), True)
                # It stays so, whatever is written.
                diary.enter([])
                self.assertIs(diary.hurt(), True)
                self.assertIs(Diary(8, 8, wrong).hurt(), False)
        torn_one = dict(disk)
        torn_one[4] = torn(sector(9, []), BLANK)
        self.assertIs(Diary(0, 8, torn_one).hurt(), False)


class ExampleTest(unittest.TestCase):

    def test_example(self):
        diary = Diary(0, 4, {})
        self.assertEqual(diary.enter([7]), (1, written(0, 4, 0, record(1, 1, [7]))))
        number, effects = diary.enter([1] * 8)
        self.assertEqual(number, 2)
        self.assertEqual(effects, written(0, 4, 1, record(2, 2, [1] * 8, before=1, base=1, base_stamp=1)))
        self.assertEqual([place for _, place, _ in effects], [1, 2])
        self.assertEqual(diary.free(), 1)
        with self.assertRaises(DiaryFull):
            diary.enter([1] * 8)
        diary.forget(2)
        self.assertEqual(
            diary.enter([]), (3, written(0, 4, 3, record(4, 3, [], before=2, base=2, base_stamp=2))))
        self.assertEqual(diary.free(), 0)
        self.assertEqual(diary.flush(), [("sync",)])
        self.assertEqual(diary.free(), 0)
        self.assertEqual(diary.synced(), 3)
        self.assertEqual(diary.free(), 1)
        number, effects = diary.enter([])
        self.assertEqual((number, effects[0][1]), (4, 0))


if __name__ == "__main__":
    unittest.main()
