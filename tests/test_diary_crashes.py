"""Part 3: what the diary guarantees after crashes and rot (3.7, 3.18 to 3.21)."""

import itertools
import unittest

from cairn.diary import Diary
from cairn.errors import DiaryFull
from support import BLANK, Disk, random_octets, seeded


class Life:
    """A diary over a disk, and what is known of the entries of this life."""

    def __init__(self, first, count, disk):
        self.first, self.count, self.disk = first, count, disk
        self.diary = Diary(first, count, dict(disk.stored))
        self.entries = self.diary.entries()
        self.safe = self.diary.synced()
        self.waiting = []

    def enter(self, octets):
        number, effects = self.diary.enter(octets)
        self.entries.append((number, octets))
        self.disk.perform(effects)

    def flush(self):
        self.disk.perform(self.diary.flush())
        self.waiting.append(self.diary.next_number() - 1)

    def synced(self):
        if self.waiting:
            self.disk.finish()
            self.waiting.pop(0)
            self.safe = self.diary.synced()

    def random_step(self, rng, octets):
        choice = rng.randrange(10)
        if choice < 5:
            try:
                self.enter(octets)
            except DiaryFull:
                self.diary.forget(rng.randrange(self.diary.base(), self.diary.next_number() + 1))
        elif choice < 7:
            self.flush()
        elif choice < 9:
            self.synced()
        else:
            self.diary.forget(rng.randrange(self.diary.base(), self.diary.next_number() + 1))


class Source:
    """Records that are all different, and what was entered and lost of them."""

    def __init__(self, rng, longest):
        self.rng, self.longest, self.count = rng, longest, 0
        self.lost = set()

    def next(self):
        self.count += 1
        length = self.rng.choice((2, 3, 7, 8, 28, 29, self.longest))
        mark = [self.count >> 8, self.count & 255]
        return mark + random_octets(self.rng, length - 2)


class CrashTest(unittest.TestCase):

    def check_after_crash(self, life, again, lost):
        """The words of 3.19 and 3.21."""
        read = again.entries()
        base = life.diary.base()
        if read:
            start = life.entries.index(read[0])
            self.assertEqual(read, life.entries[start:start + len(read)])
            self.assertLessEqual(read[0][0], base)
        for entry in life.entries:
            if base <= entry[0] <= life.safe:
                self.assertIn(entry, read)
        self.assertFalse(again.hurt())
        for number, octets in read:
            self.assertNotIn(bytes(octets), lost)
        last = read[-1][0] if read else 0
        lost.update(bytes(octets) for number, octets in life.entries if number > last)

    def test_random_lives(self):
        rng = seeded(1)
        for count in (4, 5, 6, 9, 14, 30):
            for _ in range(120):
                disk, source = Disk(), Source(rng, 40)
                first = rng.randrange(3)
                life = Life(first, count, disk)
                for _ in range(6):
                    for _ in range(rng.randrange(20)):
                        life.random_step(rng, source.next())
                    disk.random_crash(rng)
                    again = Life(first, count, disk)
                    self.check_after_crash(life, again.diary, source.lost)
                    life = again

    def test_all_fates_of_short_lives(self):
        """Each open write kept, lost or torn, after each short list of steps."""
        for steps in itertools.product("sdfyF", repeat=4):
            self.try_all_fates("".join(steps))

    def test_all_fates_behind_a_full_ring(self):
        for steps in ("sssfyFsfys", "sssfyFdfsy", "ssfyFsfysFs", "dsfyFsfyd", "sssfyFsFsfy", "ddfyFsfFsfyyd"):
            self.try_all_fates(steps)

    def try_all_fates(self, steps):
        life = self.lived(steps)
        for fates in itertools.product(range(3), repeat=len(life.disk.open_writes)):
            disk, lost = life.disk.copied(), set()
            disk.crash(fates)
            again = Life(0, 4, disk)
            self.check_after_crash(life, again.diary, lost)
            # The new life writes over what is left, and crashes with everything kept.
            try:
                again.enter([200])
            except DiaryFull:
                again.diary.forget(again.diary.next_number())
            again.disk.crash([0] * len(again.disk.open_writes))
            self.check_after_crash(again, Diary(0, 4, again.disk.stored), lost)

    def lived(self, steps):
        """A life: short and double records, flush, synced, forget all but the last record."""
        life = Life(0, 4, Disk())
        for position, step in enumerate(steps):
            try:
                if step == "s":
                    life.enter([position + 1])
                elif step == "d":
                    life.enter([position + 1] * 8)
            except DiaryFull:
                pass
            if step == "f":
                life.flush()
            elif step == "y":
                life.synced()
            elif step == "F":
                life.diary.forget(max(life.diary.base(), life.diary.next_number() - 1))
        return life


class RotTest(unittest.TestCase):

    def check_after_rot(self, again, followers):
        """The words of 3.20: entries with unchanged octets, in order and without gaps."""
        read = [(number, bytes(octets)) for number, octets in again.entries()]
        for entry in read:
            self.assertIn(entry, followers)
        for entry, follower in zip(read, read[1:]):
            self.assertIn(follower, followers[entry])

    def note(self, life, followers):
        """What was entered in a life: each entry with those that came right behind it."""
        entries = [(number, bytes(octets)) for number, octets in life.entries]
        for entry in entries:
            followers.setdefault(entry, set())
        for entry, follower in zip(entries, entries[1:]):
            followers[entry].add(follower)

    def test_random_lives(self):
        rng = seeded(2)
        for count in (4, 6, 9, 20):
            for _ in range(150):
                disk, source, followers = Disk(), Source(rng, 40), {}
                life = Life(0, count, disk)
                for _ in range(5):
                    for _ in range(rng.randrange(15)):
                        life.random_step(rng, source.next())
                    self.note(life, followers)
                    disk.random_crash(rng)
                    for _ in range(rng.randrange(3)):
                        disk.rot(rng.randrange(count), rng.randrange(32), rng.randrange(1, 256))
                    again = Life(0, count, disk)
                    self.check_after_rot(again.diary, followers)
                    rotten = any(place < count for place, _ in disk.rotted)
                    self.assertEqual(again.diary.hurt(), rotten)
                    life = again

    def test_each_octet_of_a_ring(self):
        rng = seeded(3)
        disk = Disk()
        life = Life(0, 6, disk)
        for length in (3, 8, 20):
            life.enter(random_octets(rng, length))
        disk.crash([0] * len(disk.open_writes))
        followers = {}
        self.note(life, followers)
        self.assertEqual(disk.stored.get(5, BLANK), BLANK)
        whole = dict(disk.stored)
        for place, index in itertools.product(range(6), range(32)):
            disk.stored, disk.rotted = dict(whole), set()
            disk.rot(place, index, 1 + (place + index) % 255)
            again = Diary(0, 6, disk.stored)
            self.assertTrue(again.hurt())
            self.check_after_rot(again, followers)
            # The records before the rotten one are still there; a blank sector harms none.
            kept = {0: 0, 1: 1, 2: 1, 3: 2, 4: 2, 5: 3}[place]
            self.assertEqual(again.entries(), life.entries[:kept])


if __name__ == "__main__":
    unittest.main()
