"""Part 10: simulated worlds (10.8 to 10.12)."""

import unittest
from unittest import mock

from cairn import world as module
from cairn.config import Config
from cairn.index import Index
from cairn.keeper import Keeper
from cairn.world import PEACE, World, run
from support import BLANK, replaced, torn

SMALL = Config(3, 4, 2, 1, 64)
WIDE = Config(5, 6, 2, 2, 64)
MAKE = ("create", ("a",))
PROCESSES = ["p0", "p1", "k0", "k1", "k2", "s0", "s1", "s2", "s3"]
ASK = ("ask", 1, (1, 0, 1))


def do(world, *events):
    for event in events:
        world.do(event)
    return world


def state(world, config=SMALL):
    """All that a world shows."""
    disks = {name: world.disk(name) for name in config.keeper_names() + config.shelf_names()}
    running = [world.running(name) for name in PROCESSES]
    return world.history(), world.letters(), world.fault(), world.bad(), disks, running


def written(config=SMALL):
    """A world in which a keeper has an open write: k0 has promised. The letters to the others are left."""
    return do(World(config), ("call", "p0", 1, MAKE), ("deliver", 0))


class Cast(unittest.TestCase):
    """Tests with processes that only note what happens to them."""

    def setUp(self):
        self.told = []
        self.effects = {}
        for name in ("Porter", "Keeper", "Shelf"):
            patch = mock.patch.object(module, name, self.actor(name))
            patch.start()
            self.addCleanup(patch.stop)

    def actor(test, kind):
        class Actor:
            def __init__(self, me, config, third):
                self.me = me
                test.told.append((me, "start", kind, third))

            def note(self, *what):
                test.told.append((self.me, *what))
                return test.effects.pop((self.me, what[0]), [])

            def call(self, client, number, op):
                return self.note("call", client, number, op)

            def letter(self, sender, letter):
                return self.note("letter", sender, letter)

            def tick(self):
                return self.note("tick")

            def synced(self):
                return self.note("synced")

            def look(self, place, sector):
                return self.note("look", place, sector)
        return Actor

    def world(self, config=SMALL):
        world = World(config)
        self.told.clear()
        return world

    def heard(self, world, *events):
        """What the processes were told by these events."""
        self.told.clear()
        do(world, *events)
        return list(self.told)

    def act(self, world, name, *effects):
        """A process has effects, at a tick."""
        self.effects[name, "tick"] = list(effects)
        world.do(("tick", name))


class StartTest(Cast):

    def test_all_processes_start_in_order(self):
        World(SMALL)
        self.assertEqual([entry[0] for entry in self.told], PROCESSES)
        porters = [("p0", "start", "Porter", 1), ("p1", "start", "Porter", 1)]
        self.assertEqual(self.told[:3], porters + [("k0", "start", "Keeper", {})])
        self.assertEqual(self.told[-1], ("s3", "start", "Shelf", {}))
        self.assertEqual({entry[1] for entry in self.told}, {"start"})

    def test_what_a_world_shows_at_first(self):
        world = World(SMALL)
        self.assertEqual((world.history(), world.letters(), world.fault(), world.bad()), ([], [], "", []))
        for name in PROCESSES:
            self.assertIs(world.running(name), True)
        for name in ("p2", "k3", "s4", "", "x"):
            self.assertIs(world.running(name), False)
        for name in PROCESSES[2:]:
            self.assertEqual(world.disk(name), {})

    def test_lives(self):
        world = self.world()
        for life in (2, 3, 4):
            found = self.heard(world, ("crash", "p1", []), ("boot", "p1"))
            self.assertEqual(found, [("p1", "start", "Porter", life)])
        found = self.heard(world, ("crash", "p0", []), ("boot", "p0"))
        self.assertEqual(found, [("p0", "start", "Porter", 2)])

    def test_a_disk_at_a_start(self):
        world = self.world()
        one, two = (1,) * 32, (2,) * 32
        self.act(world, "k1", ("write", 3, one), ("sync",), ("write", 4, two))
        world.do(("finish", "k1"))
        found = self.heard(world, ("crash", "k1", []), ("boot", "k1"))
        self.assertEqual(found, [("k1", "start", "Keeper", {3: one})])


class EffectsTest(Cast):

    def test_letters_in_order(self):
        world = self.world()
        self.act(world, "p0", ("send", "k1", ("x", 1)), ("send", "nobody", ("y",)))
        self.act(world, "s2", ("send", "p0", ("z",)))
        expected = [("p0", "k1", ("x", 1)), ("p0", "nobody", ("y",)), ("s2", "p0", ("z",))]
        self.assertEqual(world.letters(), expected)

    def test_writes_and_syncs(self):
        world = self.world()
        one, two, three = (1,) * 32, (2,) * 32, (3,) * 32
        self.act(world, "s0", ("write", 5, one), ("write", 6, one), ("sync",), ("write", 5, two), ("sync",), ("sync",))
        self.act(world, "s0", ("write", 7, three))
        self.assertEqual(world.disk("s0"), {})
        self.assertEqual(self.heard(world, ("finish", "s0")), [("s0", "synced")])
        self.assertEqual(world.disk("s0"), {5: one, 6: one})
        world.do(("finish", "s0"))
        self.assertEqual(world.disk("s0"), {5: two, 6: one})
        world.do(("finish", "s0"))
        self.assertEqual(world.disk("s0"), {5: two, 6: one})
        # No sync is open: nothing is stored.
        world.do(("finish", "s0"))
        self.assertEqual(world.disk("s0"), {5: two, 6: one})
        self.act(world, "s0", ("sync",))
        world.do(("finish", "s0"))
        self.assertEqual(world.disk("s0"), {5: two, 6: one, 7: three})
        for name in PROCESSES[2:]:
            if name != "s0":
                self.assertEqual(world.disk(name), {})

    def test_effects_of_synced(self):
        world = self.world()
        self.act(world, "k0", ("sync",))
        self.effects["k0", "synced"] = [("send", "p0", ("done",))]
        world.do(("finish", "k0"))
        self.assertEqual(world.letters(), [("k0", "p0", ("done",))])

    def test_answers(self):
        world = self.world()
        world.do(("call", "p0", 2, MAKE))
        answer = ("answer", 2, 1, (5, "ok", ()))
        self.act(world, "p1", answer)
        expected = [("call", 2, 1, MAKE), answer]
        self.assertEqual(world.history(), expected)
        # The same answer again.
        self.act(world, "p0", answer)
        self.assertEqual((world.history(), world.fault()), (expected, ""))
        # Also of an earlier call.
        do(world, ("call", "p0", 2, MAKE))
        self.act(world, "p0", answer)
        self.assertEqual((world.history(), world.fault()), (expected + [("call", 2, 2, MAKE)], ""))

    def test_answers_that_are_faults(self):
        for wrong in (
            ("answer", 2, 1, (6, "ok", ())), ("answer", 2, 1, (5, "ok", 1)), ("answer", 2, 1, (5, "missing", ())),
            ("answer", 1, 1, (5, "ok", ())), ("answer", 2, 2, (5, "ok", ())), ("answer", 2, 0, (5, "ok", ())),
            ("answer", 5, 1, (5, "ok", ())), ("answer", 2, -1, (5, "ok", ())),
        ):
            world = self.world()
            world.do(("call", "p0", 2, MAKE))
            self.act(world, "p0", ("answer", 2, 1, (5, "ok", ())))
            self.assertEqual(world.fault(), "")
            self.act(world, "p0", wrong)
            self.assertEqual(world.fault(), "answer", wrong)

    def test_a_fault_stops_the_world(self):
        world = self.world()
        self.act(world, "p0", ("answer", 1, 1, (5, "ok", ())))
        self.assertEqual(world.fault(), "answer")
        events = [("call", "p0", 1, MAKE), ("tick", "p0"), ("crash", "k0", []), ("lose", "s0"), ("peace",)]
        self.assertEqual(self.heard(world, *events), [])
        self.assertEqual(world.fault(), "answer")
        self.assertIs(world.running("k0"), True)


class CallTest(Cast):

    def test_calls(self):
        world = self.world()
        found = self.heard(world, ("call", "p1", 3, MAKE))
        self.assertEqual(found, [("p1", "call", 3, 1, MAKE)])
        # The call is open: it is passed again, and the other operation is ignored.
        found = self.heard(world, ("call", "p0", 3, ("list", ())))
        self.assertEqual(found, [("p0", "call", 3, 1, MAKE)])
        self.assertEqual(world.history(), [("call", 3, 1, MAKE)])
        self.act(world, "p0", ("answer", 3, 1, (2, "ok", ())))
        found = self.heard(world, ("call", "p0", 3, ("list", ())))
        self.assertEqual(found, [("p0", "call", 3, 2, ("list", ()))])
        self.assertEqual(len(world.history()), 3)

    def test_calls_that_do_not_apply(self):
        world = do(self.world(), ("crash", "p1", []))
        good = ("list", ())
        wrong = [
            ("p1", 1, good), ("p2", 1, good), ("k0", 1, good), ("s0", 1, good), ("", 1, good), ("p0", 0, good),
            ("p0", 5, good), ("p0", -1, good), ("p0", True, good), ("p0", "1", good), ("p0", None, good),
            ("p0", 1, ("list",)), ("p0", 1, ("show", ())), ("p0", 1, ()), ("p0", 1, ("make", ("A",))),
            ("p0", 1, ("write", ("a",), 0, (1,) * 65)), ("p0", 1, ("read", ("a",), -1, 3)), ("p0", 1, None),
        ]
        for event in wrong:
            self.assertEqual(self.heard(world, ("call", *event)), [])
        self.assertEqual(world.history(), [])
        # Also where the operation would be ignored.
        world.do(("call", "p0", 1, good))
        self.assertEqual(self.heard(world, ("call", "p0", 1, ("show", ()))), [])

    def test_each_client(self):
        world = self.world()
        for client in (4, 1, 3, 2):
            world.do(("call", "p0", client, MAKE))
        self.assertEqual([entry[1:3] for entry in world.history()], [(4, 1), (1, 1), (3, 1), (2, 1)])

    def test_again(self):
        world = self.world()
        self.assertEqual(self.heard(world, ("again", "p0", 1)), [])
        world.do(("call", "p0", 1, MAKE))
        # The call is open.
        self.assertEqual(self.heard(world, ("again", "p0", 1)), [])
        self.act(world, "p0", ("answer", 1, 1, (2, "ok", ())))
        for porter in ("p0", "p1"):
            self.assertEqual(self.heard(world, ("again", porter, 1)), [(porter, "call", 1, 1, MAKE)])
        for event in (("again", "p0", 2), ("again", "k0", 1), ("again", "p2", 1), ("again", "p0", 0)):
            self.assertEqual(self.heard(world, event), [])
        world.do(("crash", "p0", []))
        self.assertEqual(self.heard(world, ("again", "p0", 1)), [])
        self.assertEqual(len(world.history()), 2)


class LetterTest(Cast):

    def letters(self, count=4):
        world = self.world()
        self.act(world, "p0", *[("send", f"k{number % 3}", ("x", number)) for number in range(count)])
        return world

    def numbers(self, world):
        return [letter[2][1] for letter in world.letters()]

    def test_deliver(self):
        for index, number in ((0, 0), (1, 1), (3, 3), (4, 0), (7, 3), (-1, 3), (-4, 0), (402, 2)):
            world = self.letters()
            found = self.heard(world, ("deliver", index))
            self.assertEqual(found, [(f"k{number % 3}", "letter", "p0", ("x", number))])
            self.assertEqual(self.numbers(world), [other for other in range(4) if other != number])

    def test_drop(self):
        for index, number in ((0, 0), (2, 2), (6, 2), (-1, 3)):
            world = self.letters()
            self.assertEqual(self.heard(world, ("drop", index)), [])
            self.assertEqual(self.numbers(world), [other for other in range(4) if other != number])

    def test_double(self):
        for index, number in ((0, 0), (2, 2), (6, 2), (-1, 3)):
            world = self.letters()
            self.assertEqual(self.heard(world, ("double", index)), [])
            self.assertEqual(self.numbers(world), [0, 1, 2, 3, number])

    def test_without_letters(self):
        world = self.world()
        self.assertEqual(self.heard(world, ("deliver", 0), ("drop", 3), ("double", -1)), [])
        self.assertEqual(world.letters(), [])

    def test_receivers_that_do_not_run(self):
        world = do(self.letters(2), ("crash", "k0", []))
        self.act(world, "p0", ("send", "nobody", ("y", 9)))
        self.assertEqual(self.heard(world, ("deliver", 0), ("deliver", 1)), [])
        self.assertEqual(self.numbers(world), [1])

    def test_effects_come_behind(self):
        world = self.letters(3)
        self.effects["k1", "letter"] = [("send", "p0", ("x", 7))]
        world.do(("deliver", 1))
        self.assertEqual(self.numbers(world), [0, 2, 7])


class CrashTest(Cast):

    OLD, NEW, LAST = (1,) * 32, (2,) * 32, (3,) * 32

    def world_with_writes(self, count=6):
        """Open writes of s0 to the places 0 to count - 1, over stored ones in the even places."""
        world = self.world()
        self.act(world, "s0", *[("write", place, self.OLD) for place in range(0, count, 2)], ("sync",))
        world.do(("finish", "s0"))
        self.act(world, "s0", *[("write", place, self.NEW) for place in range(count)], ("sync",))
        return world

    def test_fates(self):
        lists = [[], [0], [1], [2], [0, 1, 2], [1, 2], [4, 3, 5, 301], [-1], [1, 1, 1, 1, 1, 1, 2], (2, 1)]
        for fates in lists:
            world = do(self.world_with_writes(), ("crash", "s0", fates))
            expected = {place: self.OLD for place in (0, 2, 4)}
            for place in range(6):
                fate = fates[place % len(fates)] % 3 if fates else 0
                old = expected.get(place, BLANK)
                if fate:
                    expected[place] = self.NEW if fate == 1 else torn(self.NEW, old)
            with self.subTest(fates=fates):
                self.assertEqual(world.disk("s0"), expected)
                self.assertIs(world.running("s0"), False)

    def test_fates_of_one_place(self):
        """They take effect in the order of the writes."""
        cases = [
            ([1, 1], self.NEW), ([1, 2], torn(self.NEW, self.LAST)), ([2, 0], torn(self.LAST, self.OLD)),
            ([2, 2], torn(self.NEW, self.OLD)), ([0, 0], self.OLD),
        ]
        for fates, expected in cases:
            world = self.world()
            self.act(world, "k0", ("write", 0, self.OLD), ("sync",))
            world.do(("finish", "k0"))
            self.act(world, "k0", ("write", 0, self.LAST), ("write", 0, self.NEW))
            world.do(("crash", "k0", fates))
            self.assertEqual(world.disk("k0"), {0: expected})

    def test_nothing_is_open_afterwards(self):
        world = do(self.world_with_writes(), ("crash", "s0", []), ("boot", "s0"))
        before = world.disk("s0")
        do(world, ("finish", "s0"), ("crash", "s0", [1]))
        self.assertEqual(world.disk("s0"), before)

    def test_crash_and_boot(self):
        for name in PROCESSES:
            world = self.world()
            self.assertEqual(self.heard(world, ("boot", name)), [])
            do(world, ("crash", name, [1]))
            self.assertIs(world.running(name), False)
            # It is stopped: nothing reaches it.
            events = [("tick", name), ("finish", name), ("look", name, 0), ("crash", name, []), ("call", name, 1, MAKE)]
            self.assertEqual(self.heard(world, *events), [])
            self.assertEqual([entry[:2] for entry in self.heard(world, ("boot", name))], [(name, "start")])
            self.assertIs(world.running(name), True)
            self.assertEqual(self.heard(world, ("boot", name)), [])

    def test_names_of_no_process(self):
        world = self.world()
        before = state(world)
        for name in ("p2", "k3", "s4", "", "x"):
            events = [("tick", name), ("finish", name), ("crash", name, []), ("boot", name), ("gone", name)]
            events += [("lose", name), ("rot", name, 0, 0, 1), ("look", name, 0)]
            self.assertEqual(self.heard(world, *events), [])
        self.assertEqual(state(world), before)

    def test_ticks_and_syncs(self):
        world = self.world()
        for name in PROCESSES:
            self.assertEqual(self.heard(world, ("tick", name)), [(name, "tick")])
        # A porter has no disk.
        self.assertEqual(self.heard(world, ("finish", "p0"), ("finish", "p1")), [])

    def test_events_of_other_words(self):
        world = self.world()
        before = state(world)
        events = [(), ("hello",), ("tick",), ("tick", "p0", 1), ("peace", 1), ("crash", "p0"), ("deliver",)]
        for event in events + [("call", "p0", 1), ("look", "s0"), ("rot", "s0", 0, 0)]:
            self.assertEqual(self.heard(world, event), [])
        self.assertEqual(state(world), before)


class GoneTest(Cast):

    def test_fewer_than_half(self):
        for count in (1, 3, 5, 7):
            config = Config(count, 4, 2, 1, 64)
            world = self.world(config)
            for name in reversed(config.keeper_names()):
                do(world, ("gone", name), ("gone", name))
            left = [name for name in config.keeper_names() if world.running(name)]
            self.assertEqual(left, list(config.keeper_names()[:count // 2 + 1]))

    def test_it_is_gone_for_ever(self):
        world = self.world()
        self.act(world, "k1", ("write", 0, (1,) * 32), ("sync",))
        do(world, ("gone", "k1"))
        self.assertEqual(self.heard(world, ("boot", "k1"), ("tick", "k1"), ("finish", "k1")), [])
        self.assertNotIn("k1", {entry[0] for entry in self.heard(world, ("peace",))})
        self.assertIs(world.running("k1"), False)
        self.assertEqual(world.disk("k1"), {})

    def test_a_stopped_one(self):
        world = do(self.world(), ("crash", "k1", []), ("gone", "k1"))
        self.assertEqual(self.heard(world, ("boot", "k1")), [])

    def test_others_than_keepers(self):
        world = self.world()
        do(world, ("gone", "p0"), ("gone", "s0"))
        self.assertTrue(world.running("p0") and world.running("s0"))


class BadShelvesTest(Cast):

    ONE = tuple(range(32))

    def stored(self, config=SMALL, names=("s0",)):
        """A world in which some shelves have a sector at the place 2."""
        world = self.world(config)
        for name in names:
            self.act(world, name, ("write", 2, self.ONE), ("sync",))
            world.do(("finish", name))
        return world

    def test_lose(self):
        world = self.stored()
        self.act(world, "s0", ("write", 3, self.ONE), ("sync",))
        world.do(("lose", "s0"))
        self.assertEqual((world.disk("s0"), world.bad(), world.running("s0")), ({}, ["s0"], False))
        found = self.heard(world, ("boot", "s0"), ("finish", "s0"))
        self.assertEqual(found, [("s0", "start", "Shelf", {}), ("s0", "synced")])
        self.assertEqual(world.disk("s0"), {})

    def test_lose_a_stopped_one(self):
        world = do(self.stored(), ("crash", "s0", []), ("lose", "s0"))
        self.assertEqual((world.disk("s0"), world.bad(), world.running("s0")), ({}, ["s0"], False))

    def test_the_bound(self):
        for spare in range(4):
            config = Config(1, 2 + 2 * spare, 2, spare, 64)
            world = self.stored(config, config.shelf_names())
            for name in reversed(config.shelf_names()):
                world.do(("lose", name))
            bad = list(config.shelf_names()[2 + spare:])
            self.assertEqual(world.bad(), bad)
            for name in config.shelf_names():
                self.assertEqual(world.disk(name), {} if name in bad else {2: self.ONE})
                do(world, ("rot", name, 2, 0, 9))
            self.assertEqual(world.bad(), bad)

    def test_a_bad_shelf_may_be_hurt_again(self):
        world = self.stored(names=("s0", "s1"))
        do(world, ("rot", "s1", 2, 0, 9), ("rot", "s1", 2, 16, 9), ("rot", "s0", 2, 0, 9), ("lose", "s0"))
        self.assertEqual(world.disk("s0"), {2: self.ONE})
        self.assertEqual(world.disk("s1")[2][::16], (9, 9))
        do(world, ("lose", "s1"))
        self.assertEqual((world.disk("s1"), world.bad()), ({}, ["s1"]))

    def test_rot(self):
        for cell in range(32):
            world = do(self.stored(), ("rot", "s0", 2, cell, 200))
            self.assertEqual(world.disk("s0"), {2: self.ONE[:cell] + (200,) + self.ONE[cell + 1:]})
            self.assertEqual((world.bad(), world.running("s0")), (["s0"], True))

    def test_rot_of_a_stopped_shelf(self):
        world = do(self.stored(), ("crash", "s0", []), ("rot", "s0", 2, 0, 200))
        self.assertEqual((world.disk("s0")[2][0], world.running("s0")), (200, False))

    def test_rot_that_does_not_apply(self):
        wrong = [
            # No sector at the place, no index of it, no octet, what the cell has.
            ("s0", 3, 0, 200), ("s0", -1, 0, 200), ("s0", 2, 32, 200), ("s0", 2, -1, 200), ("s0", 2, -32, 200),
            ("s0", 2, 0, 256), ("s0", 2, 0, -1), ("s0", 2, 5, 5), ("s0", 2, 0, 0), ("s0", 2, 0, "1"), ("s0", 2, "0", 1),
            ("s1", 2, 0, 200), ("k0", 2, 0, 200), ("p0", 2, 0, 200), ("s0", 2, 1, True),
        ]
        world = self.stored()
        self.act(world, "k0", ("write", 2, self.ONE), ("sync",))
        do(world, ("finish", "k0"))
        # An open write is no sector of the disk.
        self.act(world, "s1", ("write", 2, self.ONE))
        for event in wrong:
            world.do(("rot", *event))
            with self.subTest(event=event):
                self.assertEqual((world.disk("s0"), world.bad()), ({2: self.ONE}, []))

    def test_twice_in_one_half(self):
        world = do(self.stored(), ("rot", "s0", 2, 3, 200), ("rot", "s0", 2, 4, 200), ("rot", "s0", 2, 15, 200))
        self.assertEqual(world.disk("s0"), {2: replaced(self.ONE, 3, 197)})
        # The same cell may rot again, and the other half too.
        do(world, ("rot", "s0", 2, 3, 201), ("rot", "s0", 2, 16, 200), ("rot", "s0", 2, 17, 200))
        self.assertEqual(world.disk("s0"), {2: replaced(replaced(self.ONE, 3, 198), 16, 184)})
        # Also when it has its old value again.
        do(world, ("rot", "s0", 2, 3, 3), ("rot", "s0", 2, 4, 200))
        self.assertEqual(world.disk("s0"), {2: replaced(self.ONE, 16, 184)})

    def test_a_half_that_was_stored_anew(self):
        new = (9,) * 32
        for way, rots in (("finish", (1, 17)), (1, (1, 17)), (2, (1,)), (0, ())):
            world = do(self.stored(), ("rot", "s0", 2, 0, 200), ("rot", "s0", 2, 16, 200))
            self.act(world, "s0", ("write", 2, new), ("sync",))
            do(world, ("finish", "s0") if way == "finish" else ("crash", "s0", [way]))
            before = world.disk("s0")[2]
            do(world, ("rot", "s0", 2, 1, 77), ("rot", "s0", 2, 17, 77))
            after = world.disk("s0")[2]
            self.assertEqual(tuple(cell for cell in range(32) if before[cell] != after[cell]), rots)

    def test_a_disk_that_was_lost(self):
        world = do(self.stored(), ("rot", "s0", 2, 0, 200), ("lose", "s0"), ("boot", "s0"))
        self.act(world, "s0", ("write", 2, self.ONE), ("sync",))
        do(world, ("finish", "s0"), ("rot", "s0", 2, 1, 200))
        self.assertEqual(world.disk("s0"), {2: replaced(self.ONE, 1, 199)})

    def test_look(self):
        world = self.stored()
        new, last = (8,) * 32, (9,) * 32
        self.assertEqual(self.heard(world, ("look", "s0", 2)), [("s0", "look", 2, self.ONE)])
        self.assertEqual(self.heard(world, ("look", "s0", 3)), [("s0", "look", 3, BLANK)])
        self.act(world, "s0", ("write", 2, new), ("write", 3, new), ("write", 2, last))
        self.assertEqual(self.heard(world, ("look", "s0", 2)), [("s0", "look", 2, last)])
        self.assertEqual(self.heard(world, ("look", "s0", 3)), [("s0", "look", 3, new)])
        self.assertEqual(self.heard(world, ("look", "k0", 0), ("look", "p0", 0)), [])

    def test_effects_of_a_look(self):
        world = self.stored()
        self.effects["s0", "look"] = [("write", 7, self.ONE), ("sync",)]
        do(world, ("look", "s0", 2), ("finish", "s0"))
        self.assertEqual(world.disk("s0"), {2: self.ONE, 7: self.ONE})


class PeaceTest(Cast):

    def test_the_number_of_rounds(self):
        self.assertEqual(PEACE, 160)
        found = self.heard(self.world(), ("peace",))
        self.assertEqual(found.count(("p0", "tick")), 160)
        self.assertEqual(len(found), 9 + 160 * 9)

    def test_all_start_in_order(self):
        world = do(self.world(), ("crash", "k1", []), ("crash", "p1", []), ("boot", "p1"))
        found = self.heard(world, ("peace",))[:9]
        self.assertEqual([entry[:2] for entry in found], [(name, "start") for name in PROCESSES])
        self.assertEqual([entry[3] for entry in found[:2]], [2, 3])

    def test_open_writes_are_kept(self):
        world = self.world()
        one, two = (1,) * 32, (2,) * 32
        self.act(world, "k0", ("write", 0, one), ("sync",), ("write", 0, two))
        found = self.heard(world, ("peace",))
        self.assertIn(("k0", "start", "Keeper", {0: two}), found)
        self.assertNotIn(("k0", "synced"), found)

    def test_open_calls_go_to_p0(self):
        world = self.world()
        for client in (3, 1, 2):
            world.do(("call", "p1", client, ("list", ())))
        self.act(world, "p0", ("answer", 2, 1, (1, "ok", ())))
        found = [entry for entry in self.heard(world, ("peace",)) if entry[1] == "call"]
        self.assertEqual(found, [("p0", "call", 1, 1, ("list", ())), ("p0", "call", 3, 1, ("list", ()))])
        self.assertEqual(world.fault(), "open")

    def test_the_order_of_a_round(self):
        world = self.world()
        self.act(world, "p0", ("send", "s1", ("x", 1)), ("send", "k2", ("x", 2)), ("send", "k0", ("x", 3)))
        self.effects["k2", "letter"] = [("send", "s0", ("y",)), ("sync",), ("sync",)]
        self.effects["s1", "letter"] = [("sync",)]
        self.effects["k2", "synced"] = [("sync",)]
        self.effects["p0", "tick"] = [("send", "p1", ("z",))]
        found = self.heard(world, ("peace",))[9:]
        expected = [(name, "letter", "p0", ("x", number)) for number, name in enumerate(("s1", "k2", "k0"), 1)]
        # As many syncs as are open at that moment.
        expected += [("k2", "synced"), ("k2", "synced"), ("s1", "synced")]
        expected += [(name, "tick") for name in PROCESSES]
        # The letters of a round are delivered in the next one.
        expected += [("s0", "letter", "k2", ("y",)), ("p1", "letter", "p0", ("z",)), ("k2", "synced")]
        expected += [(name, "tick") for name in PROCESSES]
        self.assertEqual(found[:len(expected)], expected)

    def test_letters_of_the_last_round_stay(self):
        world = self.world()

        def late(*_):
            # p0 sends a letter at each of its ticks.
            self.effects["p0", "tick"] = [("send", "k0", ("x", len(self.told)))]
        for _ in range(3):
            late()
            world.do(("tick", "p0"))
        self.assertEqual(len(world.letters()), 3)
        world.do(("peace",))
        self.assertEqual(world.letters(), [])
        with mock.patch.object(module, "PEACE", 1):
            late()
            world.do(("peace",))
        self.assertEqual([letter[:2] for letter in world.letters()], [("p0", "k0")])

    def test_bad_shelves_are_good_again(self):
        world = do(self.world(), ("lose", "s1"))
        self.assertEqual(world.bad(), ["s1"])
        world.do(("peace",))
        self.assertEqual((world.bad(), world.fault(), world.running("s1")), ([], "", True))

    def test_an_answer_in_a_peace(self):
        world = do(self.world(), ("call", "p1", 1, MAKE))
        self.effects["p0", "call"] = [("answer", 1, 1, (4, "ok", ()))]
        world.do(("peace",))
        self.assertEqual((world.fault(), len(world.history())), ("", 2))

    def test_a_wrong_answer_in_a_peace(self):
        world = do(self.world(), ("call", "p1", 1, MAKE))
        self.effects["p0", "call"] = [("answer", 2, 1, (4, "ok", ()))]
        world.do(("peace",))
        self.assertEqual(world.fault(), "answer")


class ProcessesTest(unittest.TestCase):
    """Worlds with the processes of the store."""

    def test_a_call_step_by_step(self):
        world = do(World(SMALL), ("call", "p0", 1, MAKE))
        self.assertEqual(world.letters(), [("p0", keeper, ASK) for keeper in SMALL.keeper_names()])
        do(world, ("deliver", 0), ("deliver", 0))
        self.assertEqual(world.letters(), [("p0", "k2", ASK)])
        do(world, ("finish", "k1"), ("finish", "k0"))
        promise = ("promise", 1, (1, 0, 1), (), ())
        self.assertEqual(world.letters()[1:], [("k1", "p0", promise), ("k0", "p0", promise)])
        do(world, ("deliver", 1), ("deliver", 1))
        votes = [letter for letter in world.letters() if letter[2][0] == "vote"]
        self.assertEqual([letter[1] for letter in votes], ["k0", "k1", "k2"])

    def test_a_disk_is_what_the_process_wrote(self):
        world = do(written(), ("finish", "k0"))
        keeper = Keeper("k0", SMALL, {})
        expected = {effect[1]: effect[2] for effect in keeper.letter("p0", ASK) if effect[0] == "write"}
        self.assertEqual(world.disk("k0"), expected)

    def test_peace_answers_the_calls(self):
        events = [("call", "p1", client, ("create", (name,))) for client, name in ((1, "a"), (2, "b"), (3, "a"))]
        world = run(SMALL, events + [("peace",)])
        self.assertEqual(world.fault(), "")
        answers = sorted(entry[1:] for entry in world.history() if entry[0] == "answer")
        self.assertEqual([(client, answer[1]) for client, _, answer in answers], [(1, "ok"), (2, "ok"), (3, "exists")])

    def test_peace_with_stopped_and_gone_processes(self):
        events = [("call", "p0", 1, MAKE), ("crash", "p0", []), ("crash", "k0", [2]), ("gone", "k2")]
        world = run(SMALL, events + [("crash", "s3", []), ("lose", "s1"), ("peace",)])
        self.assertEqual((world.fault(), len(world.history())), ("", 2))
        self.assertEqual([name for name in PROCESSES if not world.running(name)], ["k2"])

    def test_a_shelf_that_lost_its_disk_is_whole_again(self):
        write = ("write", ("a",), 0, tuple(range(40)))
        world = run(SMALL, [("call", "p0", 1, MAKE), ("peace",), ("call", "p0", 1, write), ("peace",)])
        before = {name: Index(64, world.disk(name)) for name in SMALL.shelf_names()}
        ticket = before["s0"].tickets()
        self.assertEqual(len(ticket), 1)
        for name in SMALL.shelf_names():
            do(world, ("lose", name), ("peace",))
            self.assertEqual(Index(64, world.disk(name)).fragment(ticket[0]), before[name].fragment(ticket[0]))

    def test_the_same_events_give_the_same_world(self):
        events = [("call", "p0", 1, MAKE), ("deliver", 0), ("crash", "k0", [1]), ("peace",), ("tick", "p0")]
        self.assertEqual(state(run(SMALL, events)), state(run(SMALL, tuple(events))))

    def test_arguments_and_results(self):
        fates, events = [2, 1], [("call", "p0", 1, MAKE), ("deliver", 0), ("lose", "s1")]
        world = run(SMALL, events + [("crash", "k0", fates)])
        self.assertEqual((fates, len(events)), ([2, 1], 3))
        before = state(world)
        for value in (world.history(), world.letters(), world.bad()):
            value.append(1)
        world.disk("k0")[0] = ()
        world.disk("k1").clear()
        self.assertEqual(state(world), before)
        self.assertIsNone(world.do(("tick", "p0")))


if __name__ == "__main__":
    unittest.main()
