"""Part 6: both machines beside each other (6.12 to 6.15)."""

import unittest

from cairn.extents import octets_of, tickets_of, total
from cairn.names import Names
from cairn.plain import Plain
from support import random_octets, seeded
from trees import check_bounds, random_path

CLIENTS = (1, 2, 3, 4)


class Both:
    """A machine over extents, and the plain machine, which gets each call that the former carried out."""

    def __init__(self, test):
        self.test = test
        self.names = Names()
        self.plain = Plain()
        self.slot = 0
        self.blobs = {}
        self.dead = set()
        self.idle = set()

    def apply(self, command):
        self.slot += 1
        before = [self.names.last_number(client) for client in CLIENTS]
        self.names.apply(self.slot, command)
        after = [self.names.last_number(client) for client in CLIENTS]
        if after != before:
            client, number = (command[1:3] if command[0] == "do" else command[2:4])
            self.test.assertEqual(after[client - 1], number)
            self.plain.apply(self.slot, client, number, self.operation(command))
        self.check()

    def operation(self, command):
        if command[0] == "do":
            return command[3]
        _, ticket, _, _, path, at, size = command
        return ("write", path, at, tuple(self.blobs[ticket][:size]))

    def octets(self, extents):
        return tuple(octets_of(extents, self.blobs))

    def check(self):
        nodes, calls, tickets = self.names.dump()
        plain_nodes, plain_calls = self.plain.dump()
        shown = tuple((*node[:3], self.octets(node[3])) if node[1] == "file" else node for node in nodes)
        self.test.assertEqual(shown, plain_nodes)
        check_bounds(self.test, nodes[1:])
        for path, what, _, extents in nodes:
            if what == "file":
                self.test.assertLessEqual(total(extents), 256)
                self.check_canonical(extents)
                self.test.assertEqual(self.names.extents(path), list(extents))
        self.check_calls(calls, plain_calls)
        self.check_tickets(nodes, calls, tickets)

    def check_canonical(self, extents):
        for ticket, offset, length in extents:
            self.test.assertGreaterEqual(length, 1)
            self.test.assertTrue(ticket > 0 or (ticket, offset) == (0, 0))
        for (one, offset, length), (other, begin, _) in zip(extents, extents[1:]):
            self.test.assertFalse(one == other and (one == 0 or begin == offset + length))

    def check_calls(self, calls, plain_calls):
        self.test.assertEqual(len(calls), len(plain_calls))
        for mine, other in zip(calls, plain_calls):
            self.test.assertEqual(mine[:4], other[:4])
            if mine[4] != other[4]:
                # Only a read shows extents.
                self.check_canonical(mine[4])
                self.test.assertEqual(self.octets(mine[4]), other[4])
            client, number = mine[:2]
            self.test.assertEqual(self.names.answer_of(client, number), mine[2:])
            self.test.assertEqual(self.plain.answer_of(client, number), other[2:])

    def check_tickets(self, nodes, calls, tickets):
        states = {ticket: state for ticket, state, *_ in tickets}
        # Files and pins refer to committed tickets only, which are wanted therefore.
        referred = {ticket for node in nodes if node[1] == "file" for ticket in tickets_of(node[3])}
        for *_, kind, value in calls:
            if kind == "ok" and isinstance(value, tuple) and value and isinstance(value[0], tuple):
                referred |= set(tickets_of(value))
        self.test.assertEqual({ticket for ticket in states if states[ticket] == "wanted"}, referred)
        for ticket in range(self.slot + 2):
            self.test.assertEqual(self.names.state(ticket), states.get(ticket, ""))
        # Dead tickets stay dead, and idle ones are never wanted again.
        dead = {ticket for ticket in states if states[ticket] == "dead"}
        idle = {ticket for ticket in states if states[ticket] == "idle"}
        self.test.assertLessEqual(self.dead, dead)
        self.test.assertLessEqual(self.idle, dead | idle)
        self.dead, self.idle = dead, idle
        self.test.assertEqual(self.names.dead(), sorted(dead))
        self.test.assertEqual(self.names.idle(), sorted(idle))


def random_command(rng, both, names):
    """A command, mostly one that changes something."""
    machine, client = both.names, rng.choice(CLIENTS)
    number = machine.last_number(client) + rng.choice((1, 1, 1, 1, 1, 1, 0, 2))
    path = random_path(rng, names, 3)
    files = [node[0] for node in machine.dump()[0] if node[1] == "file"]
    if files and rng.randrange(3):
        path = rng.choice(files)
    choice = rng.randrange(20)
    at = rng.choice((0, 0, 1, 3, 10, 40, 100, 250, 256, 257))
    tickets = [row[0] for row in machine.dump()[2]] or [1]
    if choice < 3:
        return ("intend", client, number)
    if choice < 9:
        intended = machine.intended()
        if intended and rng.randrange(6):
            ticket, client, number = rng.choice(intended)
        else:
            ticket = rng.choice(tickets)
        size = rng.choice((1, 2, 5, 9, 30, 64))
        both.blobs.setdefault(ticket, random_octets(rng, 64))
        return ("commit", ticket, client, number, path, at, size)
    if choice < 11:
        return ("forget", rng.choice(tickets + [rng.randrange(1, both.slot + 2)]))
    if choice < 12:
        return rng.choice((("noop",), ("other", 1), ("do", client, number, ("write", path, 0, (1, 2)))))
    operation = rng.choice((
        ("make", path), ("create", random_path(rng, names)), ("create", random_path(rng, names, 2)), ("remove", path),
        ("rename", path, random_path(rng, names)), ("list", path), ("stat", path), ("read", path, at, 300),
        ("read", path, at, rng.randrange(20)), ("read", path, 0, rng.randrange(40)), ("write", path, at, ()),
        ("cut", path, rng.choice((0, 1, 5, 30, 256, 257))),
    ))
    return ("do", client, number, operation)


class MachinesTest(unittest.TestCase):

    def test_many_commands(self):
        seen = {}
        for seed, names, steps in ((1, "ab", 500), (2, "ab", 500), (3, "abc", 500), (4, "abcdefgh", 700)):
            rng, both = seeded(seed), Both(self)
            for _ in range(steps):
                command = random_command(rng, both, names)
                both.apply(command)
                for row in both.names.dump()[1]:
                    seen[row[3]] = True
                for row in both.names.dump()[2]:
                    seen[row[1]] = True
        for word in ("ok", "missing", "notdir", "isdir", "large", "open", "wanted", "idle", "dead", "notempty"):
            self.assertIn(word, seen)

    def test_the_longest_trees(self):
        """Sixty nodes, and files of all sizes."""
        both, rng = Both(self), seeded(5)
        for number in range(1, 62):
            word = "create" if number % 2 else "make"
            both.apply(("do", 1, number, (word, (f"n{number}",))))
        self.assertEqual(both.names.answer_of(1, 61)[1:], ("full", ()))
        for number in range(1, 40):
            both.apply(("intend", 2, number))
            both.blobs[both.slot] = random_octets(rng, 64)
            at = rng.randrange(200)
            both.apply(("commit", both.slot, 2, number, (f"n{1 + 2 * (number % 3)}",), at, rng.randrange(1, 57)))
            self.assertEqual(both.names.answer_of(2, number)[1], "ok")
            both.apply(("do", 3, number, ("read", (f"n{1 + 2 * (number % 3)}",), rng.randrange(99), 99)))


class DumpTest(unittest.TestCase):

    def test_equal_dumps_and_equal_answers(self):
        """Machines that came by other ways to equal dumps."""
        for seed in range(30):
            rng, first, second = seeded(seed), Both(self), Names()
            for _ in range(80):
                command = random_command(rng, first, "ab")
                before = first.names.dump()
                first.apply(command)
                if first.names.dump() == before:
                    # Another command that changes nothing.
                    command = rng.choice((("noop",), ("forget", 0), ("intend", 1, 0), ("do", 1, 0, ("list", ()))))
                second.apply(first.slot, command)
            self.assertEqual(second.dump(), first.names.dump())
            for _ in range(40):
                command = random_command(rng, first, "ab")
                first.apply(command)
                second.apply(first.slot, command)
                self.assertEqual(second.dump(), first.names.dump())
                self.same_answers(first.names, second, first.slot)

    def same_answers(self, one, other, slot):
        for client in CLIENTS:
            number = one.last_number(client)
            self.assertEqual(other.last_number(client), number)
            for asked in (number - 1, number, number + 1):
                self.assertEqual(other.answer_of(client, asked), one.answer_of(client, asked))
                self.assertEqual(other.ticket_of(client, asked), one.ticket_of(client, asked))
        for ticket in range(slot + 1):
            self.assertEqual(other.state(ticket), one.state(ticket))
        for call in ("wanted", "intended", "idle", "dead"):
            self.assertEqual(getattr(other, call)(), getattr(one, call)())

    def test_different_states_have_different_dumps(self):
        """What changes a later answer is seen in the dump."""
        start = [("do", 1, 1, ("create", ("f",))), ("intend", 1, 2), ("commit", 2, 1, 2, ("f",), 0, 3)]
        dumps = []
        for more in (
            [], [("do", 2, 1, ("read", ("f",), 0, 3))], [("do", 2, 1, ("read", ("f",), 0, 2))],
            [("do", 2, 1, ("stat", ("f",)))], [("intend", 1, 3)], [("intend", 2, 1)], [("do", 1, 3, ("cut", ("f",), 0))],
            [("do", 1, 3, ("cut", ("f",), 0)), ("forget", 2)], [("do", 1, 3, ("cut", ("f",), 2))],
        ):
            machine = Names()
            for slot, command in enumerate(start + more, 1):
                machine.apply(slot, command)
            dumps.append(machine.dump())
        self.assertEqual(len(set(dumps)), len(dumps))


if __name__ == "__main__":
    unittest.main()
