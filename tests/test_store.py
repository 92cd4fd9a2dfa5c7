"""What is promised of the whole store, in drawn worlds.

These are the points 0.7, 7.18 to 7.21, 8.10, 8.11, 9.6, 9.16, 9.17, 10.7 and 10.13.
"""

import itertools
import unittest

from blobtools import word_of
from cairn.audit import Audit
from cairn.blobs import index_on
from cairn.config import Config
from cairn.history import check, find_order, open_calls
from cairn.index import Index
from stores import (
    PORTERS, Watched, calls_of, check_log, drawn_config, drawn_event, drawn_op, drawn_weights, events_between,
    extra_calls,
)
from support import seeded

SMALL = Config(3, 4, 2, 1, 2000)
OCTETS = tuple(range(40))


def holdings(world):
    """What the disks of the shelves hold: a dict from tickets to the shelves."""
    found = {}
    for name in world.config.shelf_names():
        for ticket in Index(world.config.sectors, world.disk(name)).tickets():
            found.setdefault(ticket, []).append(name)
    return found


class DrawnWorldsTest(unittest.TestCase):

    def world_of(self, seed, peaces=3):
        """A drawn world that ends behind a peace."""
        rng = seeded(seed)
        world = Watched(drawn_config(rng, 25 * peaces))
        for _ in range(peaces):
            for event in events_between(rng, world.config):
                world.do(event)
            world.do(("peace",))
            self.check_peace(world, seed)
        return world

    def check_peace(self, world, seed):
        history = world.history()
        self.assertEqual(world.fault(), "", seed)
        self.assertEqual(open_calls(history), [], seed)
        self.assertEqual(check(history, [])[0], "ok", seed)
        # The store is whole, and nothing is left of what nobody needs (0.7, 8.10, 8.11).
        audit = world.audit()
        self.assertTrue(audit.healthy(), seed)
        self.assertEqual(audit.margin(), world.config.shelves - world.config.data, seed)
        names = audit.names()
        self.assertEqual((names.idle(), names.intended()), ([], []), seed)
        wanted = [ticket for ticket, _ in names.wanted()]
        self.assertEqual(sorted(holdings(world)), wanted, seed)
        check_log(self, history, audit.log())

    def test_worlds_with_peaces(self):
        for seed in range(100):
            world = self.world_of(seed)
            # A fragment is dropped only if its ticket is dead.
            self.assertLessEqual({state for _, state in world.drops}, {"dead"})

    def test_histories_between_peaces(self):
        """Open calls that the log has carried out are the suitable extra calls."""
        with_extra = 0
        for seed in range(1000, 1150):
            rng = seeded(seed)
            world = Watched(drawn_config(rng, 100))
            if rng.randrange(2):
                for event in events_between(rng, world.config) + [("peace",)]:
                    world.do(event)
            for client in range(1, 5):
                world.do(("call", rng.choice(PORTERS), client, drawn_op(rng)))
            for _ in range(rng.randrange(20)):
                world.round()
            for event in events_between(rng, world.config):
                world.do(event)
            history = world.history()
            world.stop(rng)
            extra = extra_calls(history, world.audit().log())
            with_extra += len(extra) > 0
            self.assertEqual(check(history, extra)[0], "ok", seed)
            if len([entry for entry in history if entry[0] == "call"]) <= 6 and not extra:
                self.assertIsNotNone(find_order(history), seed)
        self.assertGreater(with_extra, 10)

    def test_one_keeper_less_and_one_shelf_lost_in_each_peace(self):
        rng = seeded(7)
        world = Watched(SMALL)
        world.do(("gone", "k1"))
        for turn in range(8):
            world.do(("call", PORTERS[turn % 2], 1 + turn % 4, drawn_op(rng) if turn else ("create", ("a",))))
            world.do(("peace",))
            world.do(("call", "p1", 1 + turn % 4, ("write", ("a",), 2 * turn, OCTETS)))
            world.do(("lose", f"s{turn % 4}"))
            world.do(("peace",))
            self.check_peace(world, turn)


class StopTest(unittest.TestCase):

    def test_stopped_at_any_moment(self):
        for seed in range(2000, 2150):
            rng = seeded(seed)
            world = Watched(drawn_config(rng, 50))
            for _ in range(rng.randrange(2)):
                for event in events_between(rng, world.config) + [("peace",)]:
                    world.do(event)
            for event in events_between(rng, world.config):
                world.do(event)
            history = world.history()
            world.stop(rng)
            keepers, shelves = world.disks()
            count = world.config.keepers // 2 + 1
            names = list(keepers)
            for chosen in (names, names[:count], names[-count:], rng.sample(names, count)):
                audit = Audit(world.config, {name: keepers[name] for name in chosen}, shelves)
                log = audit.log()
                check_log(self, history, log)
                self.assertNotIn("lost", [row[2] for row in audit.files()], seed)
                # Point 9.6: what was decided is in the log, whatever keepers are missing.
                for slot, command in world.told.items():
                    self.assertEqual(log[slot - 1], command, seed)

    def test_in_the_middle_of_the_rounds(self):
        """Stopped behind any of the rounds that some calls take, with the disk of a shelf missing."""
        for rounds in range(0, 24):
            rng = seeded(rounds)
            world = Watched(SMALL)
            for client, op in enumerate((("create", ("a",)), ("create", ("b",)), ("make", ("c",))), 1):
                world.do(("call", "p0", client, op))
            world.do(("peace",))
            for client, name in ((1, "a"), (2, "b"), (3, "a")):
                world.do(("call", PORTERS[client % 2], client, ("write", (name,), client, OCTETS)))
            for _ in range(rounds):
                world.round()
            history = world.history()
            world.stop(rng)
            keepers, shelves = world.disks()
            for name in SMALL.shelf_names():
                audit = Audit(SMALL, keepers, {other: shelves[other] for other in shelves if other != name})
                check_log(self, history, audit.log())
                self.assertNotIn("lost", [row[2] for row in audit.files()])

    def test_it_goes_on_from_there(self):
        """A store that starts again from these disks answers the open calls."""
        for rounds in range(0, 20, 3):
            world = Watched(SMALL)
            world.do(("call", "p0", 1, ("create", ("a",))))
            world.do(("peace",))
            world.do(("call", "p1", 1, ("write", ("a",), 0, OCTETS)))
            for _ in range(rounds):
                world.round()
            world.stop(seeded(rounds))
            world.do(("peace",))
            self.assertEqual(world.fault(), "")
            self.assertEqual(world.audit().octets(("a",)), list(OCTETS))


class AnswersTest(unittest.TestCase):

    def rounds(self, world, count):
        for _ in range(count):
            world.round()

    def test_again_at_the_other_porter(self):
        """Point 7.19: whichever porter answers, and whenever, the answer is the same."""
        ops = [
            ("create", ("a",)), ("write", ("a",), 1, (5, 6, 7)), ("read", ("a",), 0, 9), ("create", ("a",)),
            ("stat", ("a",)), ("write", ("x",), 0, (1,)), ("list", ()), ("remove", ("a",)), ("read", ("a",), 0, 9),
        ]
        world = Watched(SMALL)
        for turn, op in enumerate(ops):
            world.do(("call", PORTERS[turn % 2], 1, op))
            self.rounds(world, 30)
            # Another client changes the file meanwhile.
            world.do(("call", "p0", 2, ("write", ("a",), 0, (turn,))))
            self.rounds(world, 30)
            before = len(world.answers)
            for porter in PORTERS:
                world.do(("again", porter, 1))
                world.do(("again", porter, 1))
                self.rounds(world, 8)
            self.assertEqual(world.fault(), "")
            found = world.answers[before:]
            self.assertEqual({name for name, _ in found}, set(PORTERS))
            self.assertEqual({effect[1:3] for _, effect in found}, {(1, turn + 1)})
            self.assertEqual(len({effect for _, effect in found}), 1)
        self.assertEqual(len(world.history()), 4 * len(ops))
        self.assertEqual(check(world.history(), [])[0], "ok")

    def test_at_both_porters_at_once(self):
        for seed in range(12):
            rng = seeded(seed)
            world = Watched(SMALL)
            for client in range(1, 5):
                world.do(("call", "p0", client, drawn_op(rng)))
                world.do(("call", "p1", client, ("list", ())))
            self.rounds(world, 60 + 16 * 4)
            self.assertEqual((world.fault(), open_calls(world.history())), ("", []))
            self.assertEqual(check(world.history(), [])[0], "ok")
            answered = [effect[1] for _, effect in world.answers]
            self.assertGreater(len(answered), 4)

    def test_letters_that_come_twice_and_late(self):
        for seed in range(12):
            rng = seeded(seed)
            world = Watched(SMALL)
            world.do(("call", "p0", 1, ("create", ("a",))))
            for turn in range(400):
                if turn % 40 == 0:
                    world.do(("call", PORTERS[turn // 40 % 2], 1, ("write", ("a",), turn // 4, (turn % 256, 2))))
                    world.do(("again", rng.choice(PORTERS), 1))
                world.do((rng.choice(("deliver", "deliver", "deliver", "double", "drop")), rng.randrange(1000)))
                world.do(("finish", rng.choice(world.all_names())))
                world.do(("tick", rng.choice(PORTERS)) if turn % 7 == 0 else ("deliver", 0))
            world.do(("peace",))
            self.assertEqual(world.fault(), "")
            self.assertEqual(check(world.history(), [])[0], "ok")

    def test_stored_before_a_commit(self):
        """Point 7.20."""
        commits = 0
        for seed in range(3000, 3040):
            rng = seeded(seed)
            world = Watched(drawn_config(rng, 60))
            weights = {**drawn_weights(rng), "lose": 0, "rot": 0}
            for _ in range(2):
                world.do(("call", "p0", 1, ("create", ("a",))))
                world.do(("call", "p1", 2, ("write", ("a",), 0, OCTETS)))
                for _ in range(24):
                    world.do(drawn_event(rng, world.config, weights))
                world.do(("peace",))
            check_log(self, world.history(), world.audit().log())
            for count in world.stored.values():
                if count is not None:
                    commits += 1
                    self.assertGreaterEqual(count, world.config.data + world.config.spare)
        self.assertGreater(commits, 40)


class RoundsTest(unittest.TestCase):

    def test_within_the_promised_rounds(self):
        """Points 7.21 and 8.11, in worlds whose processes go on as they are."""
        left_over = 0
        for seed in range(4000, 4050):
            rng = seeded(seed)
            world = Watched(drawn_config(rng, 200))
            weights = drawn_weights(rng)
            for _ in range(rng.randrange(60)):
                world.do(drawn_event(rng, world.config, weights))
            for name in world.all_names():
                world.do(("boot", name))
            for client, _, op in open_calls(world.history()):
                world.do(("call", rng.choice(PORTERS), client, op))
            for client in (1, 2):
                world.do(("call", rng.choice(PORTERS), client, drawn_op(rng)))
            slots = len(world.left_over())
            left_over += slots > 0
            self.check_answers(world, 60 + 16 * len(open_calls(world.history())) + 24 * slots)
            self.check_whole(world)
        self.assertGreater(left_over, 10)

    def check_answers(self, world, bound):
        for _ in range(bound):
            if open_calls(world.history()):
                world.round()
        self.assertEqual((world.fault(), open_calls(world.history())), ("", []))

    def check_whole(self, world):
        """44 rounds after the last command, each shelf has its right fragment of every wanted ticket."""
        reach, since = 0, 0
        while since < 44:
            world.round()
            now = max(world.process(name).reach() for name in PORTERS)
            reach, since = (now, 0) if now > reach else (reach, since + 1)
        log = world.audit().log()
        calls = calls_of(world.history())
        blobs = {command[1]: calls[command[2:4]][3] for command in log if command[0] == "commit"}
        words = {ticket: word_of(world.config, blobs[ticket]) for ticket, _ in world.audit().names().wanted()}
        for name in world.config.shelf_names():
            held = {ticket: (index, octets) for ticket, index, octets in world.process(name).holds()}
            for ticket, word in words.items():
                index = index_on(world.config, ticket, name)
                self.assertEqual(held.get(ticket), (index, word[index]))

    def test_a_slot_that_is_left_over(self):
        """Both porters have proposed, each keeper has another ballot, and all that is lost."""
        for ballots in itertools.product(PORTERS, repeat=3):
            world = Watched(SMALL)
            for client, porter in enumerate(PORTERS, 1):
                world.do(("call", porter, client, ("create", (porter,))))
            for keeper, porter in zip(("k0", "k1", "k2"), ballots):
                at = [letter[:2] for letter in world.letters()].index((porter, keeper))
                world.do(("deliver", at))
            while world.letters():
                world.do(("drop", 0))
            for porter in PORTERS:
                world.do(("crash", porter, []))
                world.do(("boot", porter))
            self.assertEqual(world.left_over(), [1])
            for client, porter in ((1, "p1"), (2, "p0")):
                world.do(("call", porter, client, ("list", ())))
            self.check_answers(world, 60 + 2 * 16 + 24)

    def test_a_slot_without_jobs(self):
        """A vote of a keeper is heard of, and its slot is decided although nobody calls."""
        world = Watched(SMALL)
        world.do(("call", "p0", 1, ("create", ("a",))))
        for _ in range(2):
            for keeper in ("k0", "k1"):
                world.do(("deliver", [letter[1] for letter in world.letters()].index(keeper)))
                world.do(("finish", keeper))
            for _ in range(2):
                world.do(("deliver", [letter[1] for letter in world.letters()].index("p0")))
        while world.letters():
            world.do(("drop", 0))
        world.do(("crash", "p0", []))
        world.do(("boot", "p0"))
        for _ in range(40):
            world.round()
        self.assertEqual([world.process(name).reach() for name in PORTERS], [1, 1])

    def test_an_open_ticket_that_nobody_needs(self):
        """A write whose porter has fallen, and whose call is never asked for again."""
        world = Watched(SMALL)
        world.do(("call", "p0", 1, ("create", ("a",))))
        world.do(("peace",))
        world.do(("call", "p0", 1, ("write", ("a",), 0, OCTETS)))
        while not holdings(world):
            world.round()
        world.do(("crash", "p0", []))
        world.do(("boot", "p0"))
        while world.letters():
            world.do(("drop", 0))
        for _ in range(44 + 60 + 44):
            world.round()
        self.assertEqual(holdings(world), {})
        self.assertEqual(world.audit().names().intended(), [])


if __name__ == "__main__":
    unittest.main()
