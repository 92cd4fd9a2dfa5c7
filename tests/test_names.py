"""Part 6: the machine over extents (6.6, 6.10 to 6.12, 6.16)."""

import copy
import unittest

from cairn.names import Names

A, B, F, G = ("a",), ("a", "b"), ("f",), ("g",)


class Log:
    """A machine that is given the commands of the next slots."""

    def __init__(self, *commands):
        self.machine = Names()
        self.slot = 0
        for command in commands:
            self.add(command)

    def add(self, command):
        self.slot += 1
        assert self.machine.apply(self.slot, command) is None
        return self.slot

    def do(self, client, operation):
        """The client's next call. Returns its outcome."""
        number = self.machine.last_number(client) + 1
        self.add(("do", client, number, operation))
        return self.machine.answer_of(client, number)[1:]

    def write(self, client, path, at, size):
        """The client's next call, a write. Returns its ticket and its outcome."""
        number = self.machine.last_number(client) + 1
        ticket = self.add(("intend", client, number))
        self.add(("commit", ticket, client, number, path, at, size))
        return ticket, self.machine.answer_of(client, number)[1:]

    def states(self):
        return {ticket: self.machine.state(ticket) for ticket in range(self.slot + 3) if self.machine.state(ticket)}


class NamesTest(unittest.TestCase):

    def changes_nothing(self, log, *commands):
        for command in commands:
            with self.subTest(command=command):
                before = log.machine.dump()
                log.add(command)
                self.assertEqual(log.machine.dump(), before)

    def lists(self, machine):
        return machine.intended(), machine.wanted(), machine.idle(), machine.dead()


class OtherCommandsTest(NamesTest):

    def test_an_empty_machine(self):
        machine = Names()
        self.assertEqual(machine.dump(), ((((), "dir", 0, ()),), (), ()))
        self.assertEqual(self.lists(machine), ([], [], [], []))
        self.assertEqual([machine.state(ticket) for ticket in (0, 1, 2, 60000)], [""] * 4)
        self.assertEqual((machine.ticket_of(1, 1), machine.last_number(1)), (0, 0))
        for number in (0, 1):
            self.assertIsNone(machine.answer_of(1, number))
        self.assertIsNone(machine.extents(F))
        self.assertIsNone(machine.extents(()))

    def test_they_change_nothing(self):
        log = Log(("do", 1, 1, ("create", F)), ("intend", 1, 2), ("intend", 2, 1))
        self.changes_nothing(
            log, ("noop",), ("", ), ("noops",), ("done", 1, 2, ("make", A)), ("DO", 1, 2, ("make", A)),
            ("commits", 2, 1, 2, F, 0, 1), ("forgets", 2), ("intends", 1, 2), (), ("abort", 2), ("write", F, 0, (1,)),
            ("make", A), (1, 2), ("do",), ("do", 1, 2), ("do", 1, 2, ("make", A), 3), ("intend", 1), ("forget",),
            ("intend", 1, 2, 3), ("commit", 2, 1, 2, F, 0), ("commit", 2, 1, 2, F, 0, 1, 1), ("forget", 2, 3),
        )

    def test_operations_of_other_words(self):
        log = Log(("do", 1, 1, ("create", F)))
        self.changes_nothing(
            log, ("do", 1, 2, ("erase", F)), ("do", 1, 2, ("append", F, (1,))), ("do", 1, 2, ("Make", A)),
            ("do", 1, 2, ()), ("do", 1, 2, ("make",)), ("do", 1, 2, ("make", A, 1)), ("do", 1, 2, ("noop",)),
        )


class IntendTest(NamesTest):

    def test_the_slot_becomes_a_ticket(self):
        log = Log(("noop",), ("intend", 3, 1))
        self.assertEqual(log.states(), {2: "open"})
        self.assertEqual(log.machine.intended(), [(2, 3, 1)])
        self.assertEqual(log.machine.ticket_of(3, 1), 2)
        self.assertEqual([log.machine.ticket_of(*call) for call in ((3, 2), (3, 0), (1, 1), (2, 1))], [0] * 4)
        self.assertEqual(log.machine.dump()[2], ((2, "open", 3, 1, 0),))
        # The call was not carried out.
        self.assertEqual(log.machine.last_number(3), 0)

    def test_twice(self):
        log = Log(("intend", 1, 1))
        self.changes_nothing(log, ("intend", 1, 1), ("intend", 1, 1))
        log.add(("intend", 2, 1))
        self.assertEqual(log.machine.intended(), [(1, 1, 1), (4, 2, 1)])

    def test_a_number_that_does_not_count(self):
        log = Log(("do", 1, 1, ("create", F)))
        self.changes_nothing(log, ("intend", 1, 1), ("intend", 1, 0), ("intend", 1, 3), ("intend", 2, 2))
        log.add(("intend", 1, 2))
        self.assertEqual(log.states(), {6: "open"})

    def test_again_when_the_ticket_is_dead(self):
        log = Log(("intend", 1, 1), ("forget", 1), ("intend", 1, 1))
        self.assertEqual(log.states(), {1: "dead", 3: "open"})
        self.assertEqual(log.machine.ticket_of(1, 1), 3)

    def test_again_when_another_call_has_come_first(self):
        log = Log(("intend", 1, 1), ("do", 1, 1, ("create", F)), ("intend", 1, 2))
        self.assertEqual(log.states(), {1: "open", 3: "open"})
        self.assertEqual((log.machine.ticket_of(1, 1), log.machine.ticket_of(1, 2)), (1, 3))


class CommitTest(NamesTest):

    def test_a_write(self):
        log = Log(("do", 1, 1, ("create", F)))
        self.assertEqual(log.write(2, F, 2, 3), (2, ("ok", 5)))
        self.assertEqual(log.machine.answer_of(2, 1), (3, "ok", 5))
        self.assertEqual(log.machine.extents(F), [(0, 0, 2), (2, 0, 3)])
        self.assertEqual(log.states(), {2: "wanted"})
        self.assertEqual(self.lists(log.machine), ([], [(2, 3)], [], []))
        self.assertEqual(log.machine.dump()[2], ((2, "wanted", 2, 1, 3),))
        self.assertEqual(log.machine.ticket_of(2, 1), 0)

    def test_errors(self):
        log = Log(("do", 1, 1, ("create", F)), ("do", 1, 2, ("make", A)))
        for path, at, size, kind in (
            (("x",), 0, 1, "missing"), (("f", "x"), 0, 1, "notdir"), (A, 0, 1, "isdir"), ((), 0, 1, "isdir"),
            (F, 256, 1, "large"), (F, 193, 64, "large"), (F, 10 ** 20, 1, "large"), (F, 0, 257, "large"),
            (("x",), 300, 1, "missing"), (A, 300, 1, "isdir"), (("f", "x"), 300, 1, "notdir"),
        ):
            nodes, number = log.machine.dump()[0], log.machine.last_number(2)
            ticket, outcome = log.write(2, path, at, size)
            self.assertEqual(outcome, (kind, ()))
            # The call counts, and the ticket is dead.
            self.assertEqual(log.machine.last_number(2), number + 1)
            self.assertEqual(log.machine.state(ticket), "dead")
            self.assertEqual(log.machine.dump()[0], nodes)
            self.assertEqual(log.machine.dump()[2][-1], (ticket, "dead", 2, number + 1, 0))
        self.assertEqual(log.machine.wanted(), [])

    def test_the_bounds(self):
        log = Log(("do", 1, 1, ("create", F)))
        self.assertEqual(log.write(1, F, 255, 1)[1], ("ok", 256))
        self.assertEqual(log.write(1, F, 192, 64)[1], ("ok", 256))
        self.assertEqual(log.write(1, F, 0, 256)[1], ("ok", 256))
        self.assertEqual(log.machine.extents(F), [(6, 0, 256)])

    def test_another_client_number_or_ticket(self):
        log = Log(("do", 1, 1, ("create", F)), ("intend", 1, 2), ("intend", 2, 1), ("noop",))
        self.changes_nothing(
            log, ("commit", 3, 1, 2, F, 0, 1), ("commit", 2, 2, 1, F, 0, 1), ("commit", 2, 1, 1, F, 0, 1),
            ("commit", 2, 1, 3, F, 0, 1), ("commit", 2, 3, 2, F, 0, 1), ("commit", 0, 1, 2, F, 0, 1),
            ("commit", 1, 1, 2, F, 0, 1), ("commit", 4, 1, 2, F, 0, 1), ("commit", 99, 1, 2, F, 0, 1),
            ("commit", 0, 3, 1, F, 0, 1),
        )
        log.add(("commit", 2, 1, 2, F, 0, 1))
        self.assertEqual(log.machine.extents(F), [(2, 0, 1)])

    def test_each_stage_of_a_ticket(self):
        for stage, commands in STAGES.items():
            log = Log(*commands)
            self.assertEqual(log.machine.state(3), stage)
            number = log.machine.last_number(1) + 1
            if stage != "open":
                self.changes_nothing(log, ("commit", 3, 1, 2, F, 0, 1), ("commit", 3, 1, number, F, 0, 1))

    def test_when_the_call_does_not_count_any_more(self):
        log = Log(("do", 1, 1, ("create", F)), ("intend", 1, 2), ("do", 1, 2, ("list", ())))
        self.changes_nothing(log, ("commit", 2, 1, 2, F, 0, 1), ("commit", 2, 1, 3, F, 0, 1))
        self.assertEqual(log.states(), {2: "open"})
        self.assertEqual(log.machine.intended(), [(2, 1, 2)])

    def test_it_is_carried_out_once(self):
        log = Log(("do", 1, 1, ("create", F)), ("intend", 1, 2), ("commit", 2, 1, 2, F, 0, 3))
        self.changes_nothing(log, ("commit", 2, 1, 2, F, 0, 3), ("commit", 2, 1, 2, F, 5, 1))

    def test_the_piece_that_is_placed(self):
        log = Log(("do", 1, 1, ("create", F)))
        first, _ = log.write(1, F, 0, 6)
        second, _ = log.write(1, F, 2, 2)
        self.assertEqual(log.machine.extents(F), [(first, 0, 2), (second, 0, 2), (first, 4, 2)])
        third, _ = log.write(1, F, 8, 1)
        self.assertEqual(log.machine.extents(F)[3:], [(0, 0, 2), (third, 0, 1)])


# Commands after which ticket 3 is in a stage. The call was (1, 2).
BEGINNING = (("do", 1, 1, ("create", F)), ("do", 2, 1, ("create", G)), ("intend", 1, 2))
COMMIT = ("commit", 3, 1, 2, F, 0, 4)
STAGES = {
    "open": BEGINNING,
    "wanted": (*BEGINNING, COMMIT),
    "idle": (*BEGINNING, COMMIT, ("do", 1, 3, ("cut", F, 0))),
    "dead": (*BEGINNING, ("commit", 3, 1, 2, A, 0, 4)),
}


class StagesTest(NamesTest):
    """Each command, where ticket 3 is in each stage."""

    def in_each_stage(self):
        for stage, commands in STAGES.items():
            log = Log(*commands)
            self.assertEqual(log.machine.state(3), stage)
            yield stage, log, log.machine.last_number(1) + 1

    def ticket(self, log):
        return [row for row in log.machine.dump()[2] if row[0] == 3][0]

    def test_intend(self):
        for stage, log, number in self.in_each_stage():
            before = self.ticket(log)
            # The call of the ticket: it is open, or the call was carried out.
            self.changes_nothing(log, ("intend", 1, 2))
            if stage == "open":
                self.assertEqual(log.machine.ticket_of(1, 2), 3)
            else:
                slot = log.add(("intend", 1, number))
                self.assertEqual((log.machine.state(slot), log.machine.ticket_of(1, number)), ("open", slot))
            slot = log.add(("intend", 2, 2))
            self.assertEqual(log.machine.state(slot), "open")
            self.assertEqual(self.ticket(log), before)

    def test_do(self):
        for stage, log, number in self.in_each_stage():
            self.changes_nothing(log, ("do", 1, number - 1, ("remove", F)), ("do", 1, number + 1, ("remove", F)))
            before = self.ticket(log)
            self.assertEqual(log.do(1, ("list", ())), ("ok", ("f", "g")))
            self.assertEqual(self.ticket(log), before)
            self.assertEqual(log.do(1, ("remove", F)), ("ok", ()))
            self.assertEqual(log.machine.state(3), "idle" if stage == "wanted" else stage)

    def test_commit(self):
        for stage, log, number in self.in_each_stage():
            if stage == "open":
                log.add(("commit", 3, 1, 2, F, 1, 4))
                self.assertEqual((log.machine.state(3), log.machine.wanted()), ("wanted", [(3, 4)]))
            else:
                self.changes_nothing(log, ("commit", 3, 1, 2, F, 1, 4), ("commit", 3, 1, number, F, 1, 4))

    def test_commit_of_an_open_ticket_that_fails(self):
        log = Log(*STAGES["open"], ("commit", 3, 1, 2, F, 256, 4))
        self.assertEqual((log.machine.state(3), log.machine.answer_of(1, 2)), ("dead", (4, "large", ())))

    def test_noop(self):
        for _, log, _ in self.in_each_stage():
            self.changes_nothing(log, ("noop",))


class DoTest(NamesTest):

    def test_a_write_with_octets(self):
        log = Log(("do", 1, 1, ("create", F)), ("intend", 1, 2))
        self.changes_nothing(
            log, ("do", 1, 2, ("write", F, 0, (1,))), ("do", 1, 2, ("write", ("x",), 0, (1, 2))),
            ("do", 1, 2, ("write", F, 300, (0,) * 64)), ("do", 2, 1, ("write", F, 0, (1,))),
        )
        self.assertEqual(log.states(), {2: "open"})

    def test_a_write_without_octets(self):
        log = Log(("do", 1, 1, ("create", F)))
        self.assertEqual(log.do(1, ("write", F, 7, ())), ("ok", 0))
        self.assertEqual(log.do(1, ("write", F, 256, ())), ("ok", 0))
        self.assertEqual(log.do(1, ("write", F, 257, ())), ("large", ()))
        self.assertEqual(log.do(1, ("write", ("x",), 0, ())), ("missing", ()))
        self.assertEqual(log.do(1, ("write", (), 0, ())), ("isdir", ()))
        self.assertEqual(log.machine.extents(F), [])

    def test_a_read_gives_extents(self):
        log = Log(("do", 1, 1, ("create", F)))
        ticket, _ = log.write(1, F, 3, 5)
        for at in range(11):
            for count in range(11):
                expected = []
                if min(at + count, 3) > at:
                    expected.append((0, 0, min(at + count, 3) - at))
                first, end = max(at, 3), min(at + count, 8)
                if first < end:
                    expected.append((ticket, first - 3, end - first))
                self.assertEqual(log.do(2, ("read", F, at, count)), ("ok", tuple(expected)))
        self.assertEqual(log.do(2, ("read", F, 0, 10 ** 30)), ("ok", ((0, 0, 3), (ticket, 0, 5))))
        self.assertEqual(log.do(2, ("read", F, 10 ** 30, 1)), ("ok", ()))

    def test_errors(self):
        log = Log(("do", 1, 1, ("create", F)), ("do", 1, 2, ("make", A)))
        for operation, kind in (
            (("make", ()), "exists"), (("make", A), "exists"), (("create", ("x", "y")), "missing"),
            (("remove", ()), "root"), (("rename", A, ("a", "c")), "inside"), (("list", F), "notdir"),
            (("stat", ("x",)), "missing"), (("read", A, 0, 1), "isdir"), (("cut", F, 257), "large"),
            (("cut", (), 257), "isdir"), (("cut", ("f", "x"), 257), "notdir"), (("read", ("x",), 0, 1), "missing"),
        ):
            number = log.machine.last_number(2)
            self.assertEqual(log.do(2, operation), (kind, ()))
            self.assertEqual(log.machine.last_number(2), number + 1)

    def test_cut_and_stat(self):
        log = Log(("do", 1, 1, ("create", F)))
        ticket, _ = log.write(1, F, 0, 4)
        self.assertEqual(log.do(1, ("stat", F)), ("ok", ("file", 4, 1)))
        self.assertEqual(log.do(1, ("cut", F, 2)), ("ok", ()))
        self.assertEqual(log.machine.extents(F), [(ticket, 0, 2)])
        self.assertEqual(log.do(1, ("cut", F, 256)), ("ok", ()))
        self.assertEqual(log.machine.extents(F), [(ticket, 0, 2), (0, 0, 254)])
        self.assertEqual(log.do(1, ("stat", F)), ("ok", ("file", 256, 1)))

    def test_only_the_next_number_counts(self):
        for client in range(1, 5):
            log = Log(("do", client, 1, ("create", F)))
            self.changes_nothing(log, *[
                ("do", client, number, operation) for number in (0, 1, 3, 4) for operation in (("make", A), ("remove", F))
            ])
            log.add(("do", client, 2, ("remove", F)))
            self.assertEqual(log.machine.answer_of(client, 2), (log.slot, "ok", ()))
            self.assertIsNone(log.machine.answer_of(client, 1))
            self.assertIsNone(log.machine.answer_of(client, 3))
            self.assertEqual(log.machine.last_number(client), 2)

    def test_answers_of_several_clients(self):
        log = Log(("do", 3, 1, ("make", A)), ("do", 1, 1, ("make", A)), ("do", 4, 1, ("list", ())))
        self.assertEqual(log.machine.dump()[1], (
            (1, 1, 2, "exists", ()), (3, 1, 1, "ok", ()), (4, 1, 3, "ok", ("a",))))
        self.assertEqual(log.machine.answer_of(1, 1), (2, "exists", ()))
        self.assertIsNone(log.machine.answer_of(2, 1))
        self.assertIsNone(log.machine.answer_of(2, 0))


class ForgetTest(NamesTest):

    def test_each_stage(self):
        for stage, commands in STAGES.items():
            log = Log(*commands)
            before = log.machine.dump()
            log.add(("forget", 3))
            self.assertEqual(log.machine.state(3), "wanted" if stage == "wanted" else "dead")
            if stage in ("wanted", "dead"):
                self.assertEqual(log.machine.dump(), before)
            else:
                self.assertEqual(log.machine.dump()[:2], before[:2])
                self.assertEqual(log.machine.dump()[2], ((3, "dead", 1, 2, 0 if stage == "open" else 4),))

    def test_what_is_no_ticket(self):
        log = Log(*BEGINNING)
        self.changes_nothing(log, ("forget", 0), ("forget", 1), ("forget", 4), ("forget", 5), ("forget", 60000))

    def test_a_dead_ticket_stays_dead(self):
        log = Log(*STAGES["dead"], ("intend", 1, 3))
        log.add(("commit", 3, 1, 3, F, 0, 1))
        log.add(("forget", 3))
        self.assertEqual(log.machine.state(3), "dead")
        self.assertEqual(log.machine.state(5), "open")

    def test_a_forgotten_call_gets_a_new_ticket(self):
        log = Log(*BEGINNING, ("forget", 3), ("intend", 1, 2), ("commit", 3, 1, 2, F, 0, 1))
        self.assertEqual(log.states(), {3: "dead", 5: "open"})
        log.add(("commit", 5, 1, 2, F, 0, 1))
        self.assertEqual(log.states(), {3: "dead", 5: "wanted"})


class PinTest(NamesTest):

    def setUp(self):
        self.log = Log(("do", 1, 1, ("create", F)))
        self.ticket, _ = self.log.write(1, F, 0, 8)

    def state(self):
        return self.log.machine.state(self.ticket)

    def test_a_read_pins_until_the_next_call(self):
        self.log.do(2, ("read", F, 0, 4))
        self.log.do(1, ("remove", F))
        self.assertEqual((self.state(), self.log.machine.wanted()), ("wanted", [(self.ticket, 8)]))
        self.changes_nothing(self.log, ("forget", self.ticket))
        # A call that is not carried out does not end it, nor does the call of another client.
        self.changes_nothing(self.log, ("do", 2, 1, ("list", ())), ("do", 2, 3, ("list", ())), ("intend", 2, 1))
        self.log.do(3, ("list", ()))
        self.log.add(("intend", 2, 2))
        self.assertEqual(self.state(), "wanted")
        self.log.do(2, ("list", ()))
        self.assertEqual((self.state(), self.log.machine.idle()), ("idle", [self.ticket]))

    def test_it_ends_with_a_commit(self):
        self.log.do(2, ("read", F, 0, 4))
        self.log.do(1, ("cut", F, 0))
        self.assertEqual(self.state(), "wanted")
        self.log.write(2, F, 0, 1)
        self.assertEqual(self.state(), "idle")

    def test_it_ends_with_a_commit_that_fails(self):
        self.log.do(2, ("read", F, 0, 4))
        self.log.do(1, ("cut", F, 0))
        self.log.write(2, A, 0, 1)
        self.assertEqual(self.state(), "idle")

    def test_it_ends_with_a_call_that_fails(self):
        self.log.do(2, ("read", F, 0, 4))
        self.log.do(1, ("cut", F, 0))
        self.log.do(2, ("remove", ()))
        self.assertEqual(self.state(), "idle")

    def test_the_next_read_pins_what_it_reads(self):
        other, _ = self.log.write(1, F, 4, 4)
        self.log.do(2, ("read", F, 0, 4))
        self.log.do(2, ("read", F, 6, 4))
        self.log.do(1, ("remove", F))
        self.assertEqual((self.log.machine.idle(), self.log.machine.wanted()), ([self.ticket], [(other, 4)]))

    def test_reads_that_pin_nothing(self):
        for operation in (("read", F, 8, 4), ("read", F, 0, 0), ("read", ("x",), 0, 4), ("stat", F), ("list", ())):
            self.log.do(2, operation)
            log = copy.deepcopy(self.log)
            log.do(1, ("remove", F))
            self.assertEqual(log.machine.state(self.ticket), "idle")

    def test_zeros_are_no_ticket(self):
        self.log.do(1, ("cut", F, 0))
        self.log.do(1, ("cut", F, 9))
        self.log.do(2, ("read", F, 0, 9))
        self.assertEqual(self.log.states(), {self.ticket: "idle"})

    def test_several_pins_and_files(self):
        for client in (2, 3):
            self.log.do(client, ("read", F, 0, 1))
        self.log.do(1, ("remove", F))
        self.log.do(2, ("list", ()))
        self.assertEqual(self.state(), "wanted")
        self.log.do(3, ("list", ()))
        self.assertEqual(self.state(), "idle")

    def test_one_ticket_in_a_replaced_file(self):
        self.log.do(1, ("create", G))
        self.log.do(1, ("rename", G, F))
        self.assertEqual(self.state(), "idle")

    def test_a_file_that_moves_keeps_its_tickets(self):
        self.log.do(1, ("make", A))
        self.log.do(1, ("rename", F, B))
        self.assertEqual(self.state(), "wanted")
        self.assertEqual(self.log.machine.extents(B), [(self.ticket, 0, 8)])
        self.assertIsNone(self.log.machine.extents(F))

    def test_ones_own_read(self):
        self.log.do(1, ("read", F, 0, 1))
        self.log.do(2, ("remove", F))
        self.assertEqual(self.state(), "wanted")
        self.log.add(("intend", 1, self.log.machine.last_number(1) + 1))
        self.assertEqual(self.state(), "wanted")


class ListsTest(NamesTest):

    def many(self):
        """A machine with two tickets of each stage."""
        log = Log(("do", 1, 1, ("create", F)), ("do", 1, 2, ("create", G)))
        self.wanted = [log.write(1, F, 0, 3)[0], log.write(2, G, 0, 5)[0]]
        self.dead = [log.write(2, A, 0, 3)[0]]
        log.do(1, ("create", ("h",)))
        self.idle = [log.write(3, ("h",), 0, 2)[0], log.write(3, ("h",), 2, 7)[0]]
        log.do(1, ("remove", ("h",)))
        self.open = [log.add(("intend", 4, 1)), log.add(("intend", 3, 3))]
        self.dead.append(log.add(("intend", 2, 3)))
        log.add(("forget", self.dead[1]))
        return log

    def test_all_lists_ascend(self):
        machine = self.many().machine
        self.assertEqual(machine.wanted(), [(self.wanted[0], 3), (self.wanted[1], 5)])
        self.assertEqual(machine.intended(), [(self.open[0], 4, 1), (self.open[1], 3, 3)])
        self.assertEqual((machine.idle(), machine.dead()), (self.idle, self.dead))
        self.assertEqual(machine.dump()[2], tuple(sorted([
            (self.wanted[0], "wanted", 1, 3, 3), (self.wanted[1], "wanted", 2, 1, 5), (self.dead[0], "dead", 2, 2, 0),
            (self.dead[1], "dead", 2, 3, 0), (self.idle[0], "idle", 3, 1, 2), (self.idle[1], "idle", 3, 2, 7),
            (self.open[0], "open", 4, 1, 0), (self.open[1], "open", 3, 3, 0),
        ])))

    def test_the_lists_are_new(self):
        machine = self.many().machine
        for call in (
            machine.wanted, machine.intended, machine.idle, machine.dead, lambda: machine.extents(F),
            lambda: machine.extents(G),
        ):
            found = call()
            self.assertIsInstance(found, list)
            expected = list(found)
            found[:] = [(9, 9, 9), *found[1:], (8, 8, 8)]
            self.assertEqual(call(), expected)

    def test_kinds(self):
        machine = self.many().machine
        nodes, calls, tickets = machine.dump()
        for value in (machine.dump(), nodes, calls, tickets, *nodes, *calls, *tickets, *[node[3] for node in nodes]):
            self.assertIsInstance(value, tuple)

    def test_commands_stay_as_they_are(self):
        commands = [*STAGES["idle"], ("do", 2, 2, ("read", F, 0, 9)), ("forget", 3)]
        kept = copy.deepcopy(commands)
        Log(*commands)
        self.assertEqual(commands, kept)

    def test_extents_of_what_is_no_file(self):
        machine = self.many().machine
        for path in ((), A, ("x",), ("f", "x"), ("h",)):
            self.assertIsNone(machine.extents(path))
        log = Log(("do", 1, 1, ("make", A)), ("do", 1, 2, ("create", B)))
        self.assertIsNone(log.machine.extents(A))
        self.assertEqual(log.machine.extents(B), [])


class ExampleTest(unittest.TestCase):

    def test_it_as_it_stands(self):
        machine = Names()
        machine.apply(1, ("do", 1, 1, ("create", ("a",))))
        machine.apply(2, ("intend", 1, 2))
        machine.apply(3, ("commit", 2, 1, 2, ("a",), 2, 3))
        self.assertEqual(machine.extents(("a",)), [(0, 0, 2), (2, 0, 3)])
        self.assertEqual(machine.answer_of(1, 2), (3, "ok", 5))
        machine.apply(4, ("do", 2, 1, ("read", ("a",), 1, 2)))
        self.assertEqual(machine.answer_of(2, 1), (4, "ok", ((0, 0, 1), (2, 0, 1))))
        machine.apply(5, ("do", 1, 3, ("remove", ("a",))))
        before = machine.dump()
        machine.apply(6, ("forget", 2))
        self.assertEqual(machine.dump(), before)
        self.assertEqual(machine.state(2), "wanted")
        machine.apply(7, ("do", 2, 2, ("list", ())))
        self.assertEqual(machine.answer_of(2, 2), (7, "ok", ()))
        self.assertEqual(machine.state(2), "idle")
        machine.apply(8, ("forget", 2))
        self.assertEqual(machine.state(2), "dead")


if __name__ == "__main__":
    unittest.main()
