"""Part 4: what the shelf guarantees after crashes and rot (4.15)."""

import itertools
import unittest

from cairn.config import Config
from cairn.index import Index
from cairn.shelf import Shelf
from support import BLANK, Disk, seeded

TICKETS = range(1, 8)


def octets_of(ticket, index):
    length = (1, 15, 16, 37, 60)[(ticket + index) % 5]
    return tuple((ticket * 7 + index * 31 + k) % 256 for k in range(length))


class Watched:
    """A shelf over a disk, several lives one behind the other, and what its letters have promised."""

    def __init__(self, test, sectors):
        self.test = test
        self.config = Config(1, 1, 1, 0, sectors)
        self.disk = Disk()
        self.time = 0
        self.last_put = {}
        # What must be held, by its ticket, and what must not.
        self.kept = {}
        self.dropped = set()
        self.boot()

    def boot(self):
        self.shelf = Shelf("s0", self.config, dict(self.disk.stored))
        # What the shelf thinks is on the disk.
        self.memory = dict(self.disk.stored)
        self.known_owners = None
        self.drops = {}
        # Tickets that have rotted, and the new copies that are not safe yet: (sync, places).
        self.rotted = set()
        self.copies = {}
        self.asked = 0
        self.finished = 0
        self.check()

    def perform(self, effects):
        words = ["write", "sync", "send"]
        order = [words.index(effect[0]) for effect in effects]
        self.test.assertEqual(order, sorted(order))
        self.disk.perform(effects)
        for effect in effects:
            if effect[0] == "write":
                self.memory[effect[1]] = effect[2]
                self.known_owners = None
            elif effect[0] == "sync":
                self.asked += 1
            else:
                self.take_answer(effect[2])

    def take_answer(self, letter):
        if letter[0] == "kept":
            self.kept[letter[1]] = (letter[2], octets_of(letter[1], letter[2]))
        elif letter[0] == "dropped":
            came = self.drops[letter[1]].pop(0)
            if self.last_put.get(letter[1], 0) < came:
                self.dropped.add(letter[1])
        elif letter[0] == "piece":
            self.test.assertEqual(letter[3], octets_of(letter[1], letter[2]))

    def put(self, ticket, index):
        self.time += 1
        self.last_put[ticket] = self.time
        self.dropped.discard(ticket)
        self.perform(self.shelf.letter("p0", ("put", ticket, index, octets_of(ticket, index))))

    def drop(self, ticket):
        self.time += 1
        self.kept.pop(ticket, None)
        self.drops.setdefault(ticket, []).append(self.time)
        self.perform(self.shelf.letter("p0", ("drop", ticket)))

    def get(self, ticket):
        self.perform(self.shelf.letter("p0", ("get", ticket)))

    def finish(self):
        if self.shelf.waiting():
            self.disk.finish()
            self.finished += 1
            self.perform(self.shelf.synced())
            for ticket in [ticket for ticket, (sync, _) in self.copies.items() if sync <= self.finished]:
                del self.copies[ticket]
                self.rotted.discard(ticket)

    def owners(self):
        """For each place of a run its ticket, as the shelf sees it."""
        if self.known_owners is None:
            index = Index(self.config.sectors, self.memory)
            self.known_owners = {
                place: ticket for ticket in index.tickets() for start, length in index.runs(ticket)
                for place in range(start, start + length)
            }
        return self.known_owners

    def places(self, ticket):
        return [place for place, owner in sorted(self.owners().items()) if owner == ticket]

    def lies(self, place):
        """What lies at a place, that of the last open write if there is one."""
        found = self.disk.stored.get(place, BLANK)
        for other, new in self.disk.open_writes:
            if other == place:
                found = new
        return found

    def rot(self, place, cell, by):
        if place in [other for other, _ in self.disk.open_writes]:
            return
        self.disk.rot(place, cell, by)
        ticket = self.owners().get(place, 0)
        if ticket:
            self.rotted.add(ticket)
            if place in self.copies.get(ticket, (0, []))[1]:
                del self.copies[ticket]

    def look(self, place):
        ticket = self.owners().get(place, 0)
        effects = self.shelf.look(place, self.lies(place))
        self.perform(effects)
        if effects:
            places = [effect[1] for effect in effects if effect[0] == "write"]
            self.copies[ticket] = (self.asked, places)

    def look_everywhere(self):
        for place in range(self.config.sectors):
            self.look(place)

    def crash(self, fates):
        for ticket in self.rotted:
            self.kept.pop(ticket, None)
        self.disk.crash(fates)
        self.boot()

    def crash_at_random(self, rng):
        self.crash([rng.randrange(3) for _ in self.disk.open_writes])

    def check(self):
        held = {ticket: (index, octets) for ticket, index, octets in self.shelf.holds()}
        for ticket, (index, octets) in held.items():
            self.test.assertEqual(octets, octets_of(ticket, index))
            self.test.assertNotIn(ticket, self.dropped)
        for ticket, fragment in self.kept.items():
            self.test.assertEqual(held.get(ticket), fragment)
            self.test.assertTrue(self.shelf.is_safe(ticket))

    def random_step(self, rng):
        ticket = rng.choice(TICKETS)
        choice = rng.randrange(12)
        if choice < 5:
            self.put(ticket, rng.randrange(2))
        elif choice < 7:
            self.drop(ticket)
        elif choice < 8:
            self.get(ticket)
        else:
            self.finish()
        self.check()


class CrashTest(unittest.TestCase):

    def test_random_lives(self):
        rng = seeded(1)
        for sectors in (4, 6, 10, 20):
            for _ in range(100):
                watched = Watched(self, sectors)
                for _ in range(6):
                    for _ in range(rng.randrange(20)):
                        watched.random_step(rng)
                    watched.crash_at_random(rng)

    def lived(self, steps):
        watched = Watched(self, 8)
        ticket = 1
        for step in steps:
            if step in "12":
                ticket = int(step)
                watched.put(ticket, 0)
            elif step == "d":
                watched.drop(ticket)
            elif step == "f":
                watched.finish()
            elif step == "r":
                place = watched.places(ticket)
                watched.rot(place[0] if place else 7, 5, 1)
            elif step == "l":
                watched.look_everywhere()
            watched.check()
        return watched

    def try_all_fates(self, steps):
        count = len(self.lived(steps).disk.open_writes)
        self.assertLessEqual(count, 8)
        for fates in itertools.product(range(3), repeat=count):
            watched = self.lived(steps)
            watched.crash(fates)
            # The next life writes, finishes a sync, and crashes with everything lost or torn.
            watched.put(2, 0)
            watched.finish()
            watched.drop(1)
            watched.crash([1 + k % 2 for k in range(len(watched.disk.open_writes))])
            watched.crash([])

    def test_all_fates_of_short_lives(self):
        for steps in itertools.product("12df", repeat=3):
            self.try_all_fates(("1", *steps))

    def test_all_fates_around_copies(self):
        for steps in (
            "1frl", "1frlf", "1frlff", "1frlfd", "1frlfdf", "1frld", "1frldf", "1frldff", "1frld1", "1frld1f",
            "1frld1ff", "1frlfrl", "1frlffrlf", "2frl", "2frlf", "2frlfd1", "12ffrlf", "1frl2f",
        ):
            self.try_all_fates(steps)


class RotTest(unittest.TestCase):

    def test_random_lives(self):
        rng = seeded(2)
        healed = 0
        for sectors in (6, 12, 24):
            for _ in range(120):
                watched = Watched(self, sectors)
                for _ in range(5):
                    for _ in range(rng.randrange(24)):
                        watched.random_step(rng)
                        if rng.randrange(5) == 0:
                            watched.rot(rng.randrange(sectors), rng.randrange(32), rng.randrange(1, 256))
                            watched.check()
                        if rng.randrange(4) == 0:
                            before = set(watched.rotted)
                            watched.look_everywhere()
                            while rng.randrange(4):
                                watched.finish()
                            healed += len(before - watched.rotted)
                            watched.check()
                    watched.crash_at_random(rng)
        self.assertGreater(healed, 100)

    def test_rot_that_was_seen_does_no_harm(self):
        for cell in range(0, 32, 5):
            watched = Watched(self, 8)
            watched.put(4, 0)
            watched.finish()
            for _ in range(3):
                watched.rot(watched.places(4)[0], cell, 7)
                watched.look_everywhere()
                watched.finish()
                watched.finish()
                watched.crash([])
                self.assertEqual(watched.kept, {4: (0, octets_of(4, 0))})
                self.assertEqual(len(watched.shelf.holds()), 1)


if __name__ == "__main__":
    unittest.main()
