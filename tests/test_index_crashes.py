"""Part 4: what the index guarantees after crashes and rot (4.8, 4.9)."""

import itertools
import unittest

from cairn.errors import AlreadyHeld, NotHeld, ShelfFull
from cairn.index import Index
from support import BLANK, Disk, seeded


def fragment_of(ticket):
    """The index and the octets with which a ticket is always put."""
    length = (1, 15, 16, 20, 37, 60)[ticket % 6]
    return ticket % 5, [(ticket * 7 + k) % 256 for k in range(length)]


class Life:
    """An index over a disk, and what it held at each moment of this life."""

    def __init__(self, count, disk):
        self.disk = disk
        self.index = Index(count, dict(disk.stored))
        self.calls = 0
        # What was held after each call, and the calls before the last finished sync.
        self.moments = [self.held()]
        self.finished = 0
        self.waiting = []
        # For each ticket the call that wrote its newest run; for each place the tickets that lay there.
        self.newest = {ticket: 0 for ticket in self.index.tickets()}
        self.lain = {}
        self.note_runs()

    def held(self):
        return {ticket: self.index.fragment(ticket) for ticket in self.index.tickets()}

    def note_runs(self):
        for ticket in self.index.tickets():
            for start, length in self.index.runs(ticket):
                for place in range(start, start + length):
                    self.lain.setdefault(place, set()).add(ticket)

    def call(self, method, *arguments):
        """Call a method of the index and carry its effects out, if it does not raise."""
        try:
            effects = getattr(self.index, method)(*arguments)
        except (ShelfFull, AlreadyHeld, NotHeld):
            return
        self.disk.perform(effects)
        self.moments.append(self.held())
        if method in ("put", "rewrite"):
            self.newest[arguments[0]] = len(self.moments) - 1
        self.note_runs()

    def put(self, ticket):
        self.call("put", ticket, *fragment_of(ticket))

    def trim(self, ticket):
        """Trim, but only if the newest run is safe."""
        if self.newest.get(ticket, 0) <= self.finished:
            self.call("trim", ticket)

    def sync(self):
        self.disk.perform([("sync",)])
        self.waiting.append(len(self.moments) - 1)

    def finish(self):
        if self.waiting:
            self.disk.finish()
            self.finished = self.waiting.pop(0)

    def possible(self, ticket):
        """What may be held of the ticket after a crash (4.8)."""
        return [moment.get(ticket) for moment in self.moments[self.finished:]]

    def random_step(self, rng):
        ticket = rng.randrange(1, 9)
        choice = rng.randrange(10)
        if choice < 3:
            self.put(ticket)
        elif choice < 5:
            self.call("rewrite", ticket)
        elif choice < 6:
            self.call("drop", ticket)
        elif choice < 7:
            self.trim(ticket)
        elif choice < 9:
            self.sync()
        else:
            self.finish()


class CrashTest(unittest.TestCase):

    def check_after_crash(self, life, again):
        for ticket in range(1, 10):
            self.assertIn(again.index.fragment(ticket), life.possible(ticket))
        self.assertFalse(again.index.hurt())

    def test_random_lives(self):
        rng = seeded(1)
        for count in (4, 6, 8, 12, 20):
            for _ in range(200):
                disk = Disk()
                life = Life(count, disk)
                for _ in range(6):
                    for _ in range(rng.randrange(16)):
                        life.random_step(rng)
                    disk.random_crash(rng)
                    again = Life(count, disk)
                    self.check_after_crash(life, again)
                    life = again

    def lived(self, steps):
        """A life with the tickets 1 (one sector) and 2 (two sectors) on a disk of six sectors."""
        life = Life(6, Disk())
        for step in steps:
            if step in "12":
                life.put(int(step))
            elif step == "s":
                life.sync()
            elif step == "f":
                life.finish()
            elif step in "rR":
                life.call("rewrite", 1 if step == "r" else 2)
            elif step in "dD":
                life.call("drop", 1 if step == "d" else 2)
            elif step in "tT":
                life.trim(1 if step == "t" else 2)
        return life

    def try_all_fates(self, steps):
        life = self.lived(steps)
        # More open writes have too many fates to try them all.
        self.assertLessEqual(len(life.disk.open_writes), 8)
        for fates in itertools.product(range(3), repeat=len(life.disk.open_writes)):
            disk = life.disk.copied()
            disk.crash(fates)
            again = Life(6, disk)
            self.check_after_crash(life, again)
            # The next life uses the free places, and crashes with everything kept.
            again.put(9)
            again.disk.crash([0] * len(again.disk.open_writes))
            self.check_after_crash(again, Life(6, again.disk))

    def test_all_fates_of_short_lives(self):
        for before in ("2", "12sf"):
            for steps in itertools.product("2DRsf", repeat=3):
                if steps.count("R") < 2:
                    self.try_all_fates((*before, *steps))

    def test_all_fates_of_longer_lives(self):
        for steps in (
            "2sfRsfTd", "2sfRsfTsfD", "12sfrRsftT", "12sfD1d2", "2sfD2sD2", "1sfrrsft", "2sfRsfTRsD", "12sfdD2",
            "1sfd1sd1", "2sfRDsf2", "2sfRsfTR", "2sfRsfTsRfT",
        ):
            self.try_all_fates(steps)

    def test_a_safe_put_is_held_and_a_safe_drop_stays(self):
        for steps, held in (("1sf", True), ("1sfsf", True), ("1sfdsf", False), ("1sfrsftd", None), ("1dsf", False)):
            life = self.lived(steps)
            life.disk.crash([0] * len(life.disk.open_writes))
            found = Index(6, life.disk.stored).fragment(1)
            self.assertEqual(found, fragment_of(1) if held else None)


class RotTest(unittest.TestCase):

    def test_random_lives(self):
        rng = seeded(2)
        for count in (4, 8, 12, 20):
            for _ in range(200):
                disk = Disk()
                life = Life(count, disk)
                for _ in range(5):
                    rotten = set()
                    for _ in range(rng.randrange(16)):
                        life.random_step(rng)
                        if rng.randrange(20) == 0:
                            self.rot(rng, disk, count, rotten)
                    disk.random_crash(rng)
                    for _ in range(rng.randrange(3)):
                        self.rot(rng, disk, count, rotten)
                    again = Life(count, disk)
                    self.check_after_rot(life, again, rotten)
                    life = again

    def rot(self, rng, disk, count, rotten):
        place = rng.randrange(count)
        disk.rot(place, rng.randrange(32), rng.randrange(1, 256))
        rotten.add(place)

    def check_after_rot(self, life, again, rotten):
        harmed = set()
        for place in rotten | {place for place, _ in life.disk.rotted}:
            harmed |= life.lain.get(place, set())
        for ticket in range(1, 10):
            found = again.index.fragment(ticket)
            if ticket in harmed:
                # Its octets are never wrong.
                self.assertIn(found, (None, fragment_of(ticket)))
            else:
                self.assertIn(found, life.possible(ticket))
        self.assertEqual(again.index.hurt(), bool(life.disk.rotted))

    def test_each_octet_of_a_disk(self):
        disk = Disk()
        life = Life(6, disk)
        for ticket in (1, 2):
            life.put(ticket)
        life.call("rewrite", 1)
        self.assertEqual(life.index.runs(2), [(1, 2)])
        disk.crash([0] * len(disk.open_writes))
        self.assertEqual(disk.stored.get(5, BLANK), BLANK)
        whole = dict(disk.stored)
        for place, cell in itertools.product(range(6), range(32)):
            disk.stored, disk.rotted = dict(whole), set()
            disk.rot(place, cell, 1 + (place + cell) % 255)
            again = Index(6, disk.stored)
            self.assertTrue(again.hurt())
            # Ticket 1 has another run.
            self.assertEqual(again.fragment(1), fragment_of(1))
            self.assertEqual(again.fragment(2), None if place in (1, 2) else fragment_of(2))


if __name__ == "__main__":
    unittest.main()
