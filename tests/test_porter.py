"""Part 7: one porter with letters that are built by hand (7.9 to 7.18, 7.22)."""

import unittest

from blobtools import pieces_of, shelf_of
from cairn.config import Config
from cairn.writer import Writer
from porters import (
    NOOP, SHELVES, SMALL, answer, asks, create, decide, learn, new_porter, promise, quiet, reads, sends,
    tells, to_all, vote, votes,
)

MAKE = ("create", ("a",))
FIRST = (1, 0, 1)


class StartTest(unittest.TestCase):

    def test_at_first(self):
        porter = new_porter()
        self.assertEqual((porter.reach(), porter.jobs()), (0, []))

    def test_one_call(self):
        porter = new_porter()
        self.assertEqual(porter.call(1, 1, MAKE), asks(1, FIRST))
        self.assertEqual(porter.jobs(), [(1, 1)])
        self.assertEqual(promise(porter, 1, FIRST, "k2"), [])
        self.assertEqual(promise(porter, 1, FIRST, "k0"), votes(1, FIRST, create(1, 1, "a")))
        self.assertEqual(promise(porter, 1, FIRST, "k1"), [])
        self.assertEqual(vote(porter, 1, FIRST, "k1"), [])
        self.assertEqual(porter.reach(), 0)
        found = vote(porter, 1, FIRST, "k2")
        self.assertEqual(found, tells(1, create(1, 1, "a")) + answer(1, 1, 1, "ok", ()))
        self.assertEqual((porter.reach(), porter.jobs()), (1, []))
        self.assertEqual(porter.known(1), create(1, 1, "a"))
        self.assertEqual(vote(porter, 1, FIRST, "k0"), [])

    def test_the_ballot(self):
        for me, number in (("p0", 0), ("p1", 1)):
            for life in (1, 2, 60000):
                porter = new_porter(me, life)
                self.assertEqual(porter.call(2, 1, MAKE), asks(1, (1, number, life)))

    def test_the_example(self):
        # 7.22.
        porter = new_porter()
        learn(porter, 1, create(2, 1, "a"), NOOP, NOOP, NOOP)
        self.assertEqual(porter.reach(), 4)
        op = ("write", ("a",), 0, (5, 6, 7))
        self.assertEqual(porter.call(1, 1, op), asks(5, FIRST))
        self.assertEqual(promise(porter, 5, FIRST), votes(5, FIRST, ("intend", 1, 1)))
        puts = Writer(SMALL, 5, (5, 6, 7)).letters()
        self.assertEqual(puts[0], ("s1", ("put", 5, 0, (5, 6))))
        self.assertEqual([shelf for shelf, _ in puts], ["s1", "s2", "s3", "s0"])
        self.assertEqual(vote(porter, 5, FIRST), tells(5, ("intend", 1, 1)) + sends(puts))
        self.assertEqual(porter.letter("s0", ("kept", 5, 3)), [])
        self.assertEqual(porter.letter("s2", ("kept", 5, 1)), [])
        self.assertEqual(porter.letter("s1", ("kept", 5, 0)), asks(6, FIRST))
        commit = ("commit", 5, 1, 1, ("a",), 0, 3)
        self.assertEqual(promise(porter, 6, FIRST), votes(6, FIRST, commit))
        self.assertEqual(vote(porter, 6, FIRST), tells(6, commit) + answer(1, 1, 6, "ok", 3))
        self.assertEqual(porter.jobs(), [])

    def test_another_configuration(self):
        config = Config(1, 1, 1, 0, 64)
        porter = new_porter(config=config)
        self.assertEqual(porter.call(1, 1, MAKE), to_all(("ask", 1, FIRST), ["k0"]))
        found = promise(porter, 1, FIRST, "k0")
        self.assertEqual(found, to_all(("vote", 1, FIRST, create(1, 1, "a")), ["k0"]))
        porter = new_porter(config=Config(5, 4, 2, 1, 64))
        porter.call(1, 1, MAKE)
        self.assertEqual(promise(porter, 1, FIRST, "k0", "k4"), [])
        self.assertEqual(len(promise(porter, 1, FIRST, "k3")), 5)


class CallTest(unittest.TestCase):

    def test_a_call_again(self):
        porter = new_porter()
        porter.call(1, 1, MAKE)
        self.assertEqual(porter.call(1, 1, MAKE), [])
        self.assertEqual(porter.jobs(), [(1, 1)])
        promise(porter, 1, FIRST)
        self.assertEqual(porter.call(1, 1, MAKE), [])
        found = tells(1, create(1, 1, "a")) + answer(1, 1, 1, "ok", ())
        self.assertEqual(vote(porter, 1, FIRST), found)
        # It has its answer, also in another life and at another porter.
        self.assertEqual(porter.call(1, 1, MAKE), answer(1, 1, 1, "ok", ()))
        self.assertEqual(porter.jobs(), [])
        other = new_porter("p1")
        learn(other, 1, create(1, 1, "a"))
        self.assertEqual(other.call(1, 1, MAKE), answer(1, 1, 1, "ok", ()))

    def test_a_lower_number(self):
        porter = new_porter()
        learn(porter, 1, create(1, 1, "a"), create(1, 2, "b"))
        porter.call(1, 3, MAKE)
        for number in (1, 2):
            self.assertEqual(porter.call(1, number, MAKE), [])
            self.assertEqual(porter.jobs(), [(1, 3)])

    def test_a_lower_number_lets_nothing_go_on(self):
        """There are no effects at all, even if something could be proposed."""
        porter = new_porter()
        porter.call(1, 3, MAKE)
        porter.letter("k0", ("refuse", 1, FIRST, (1, 1, 1)))
        self.assertEqual(porter.call(1, 2, MAKE), [])
        self.assertEqual(porter.tick()[:3], reads(1))

    def test_a_greater_number(self):
        porter = new_porter()
        porter.call(1, 1, MAKE)
        self.assertEqual(porter.call(1, 2, ("list", ())), [])
        self.assertEqual(porter.jobs(), [(1, 2)])
        # The proposal that is under way stays.
        found = decide(porter, 1, FIRST)
        self.assertEqual(found, tells(1, create(1, 1, "a")) + asks(2, FIRST))
        command = ("do", 1, 2, ("list", ()))
        self.assertEqual(decide(porter, 2, FIRST), tells(2, command) + answer(1, 2, 2, "ok", ("a",)))

    def test_a_later_call_is_carried_out_elsewhere(self):
        porter = new_porter()
        porter.call(1, 1, MAKE)
        found = learn(porter, 1, create(1, 1, "b"), create(1, 2, "c"))
        self.assertEqual(found, [])
        self.assertEqual(porter.jobs(), [])

    def test_a_call_that_is_over(self):
        porter = new_porter()
        learn(porter, 1, create(1, 1, "a"), create(1, 2, "b"))
        self.assertEqual(porter.call(1, 1, MAKE), [])
        self.assertEqual(porter.jobs(), [])
        self.assertEqual(porter.call(1, 2, ("create", ("b",))), answer(1, 2, 2, "ok", ()))

    def test_errors_are_answered(self):
        porter = new_porter()
        learn(porter, 1, create(2, 1, "a"))
        porter.call(1, 1, MAKE)
        found = decide(porter, 2, FIRST)
        self.assertEqual(found, tells(2, create(1, 1, "a")) + answer(1, 1, 2, "exists", ()))

    def test_each_operation_without_octets(self):
        ops = [
            ("make", ("d",)), ("create", ("f",)), ("remove", ("f",)), ("rename", ("f",), ("g",)), ("list", ()),
            ("stat", ("f",)), ("read", ("f",), 0, 9), ("write", ("f",), 3, ()), ("cut", ("f",), 7),
        ]
        for op in ops:
            porter = new_porter()
            porter.call(4, 1, op)
            self.assertEqual(promise(porter, 1, FIRST), votes(1, FIRST, ("do", 4, 1, op)))


class SeveralJobsTest(unittest.TestCase):

    def test_jobs_in_ascending_order(self):
        porter = new_porter()
        porter.call(3, 1, ("create", ("c",)))
        self.assertEqual(porter.call(1, 1, MAKE), [])
        self.assertEqual(porter.call(2, 1, ("list", ())), [])
        self.assertEqual(porter.jobs(), [(1, 1), (2, 1), (3, 1)])
        found = decide(porter, 1, FIRST)
        self.assertEqual(found, tells(1, create(3, 1, "c")) + answer(3, 1, 1, "ok", ()) + asks(2, FIRST))
        found = decide(porter, 2, FIRST)
        self.assertEqual(found, tells(2, create(1, 1, "a")) + answer(1, 1, 2, "ok", ()) + asks(3, FIRST))
        found = decide(porter, 3, FIRST)
        command = ("do", 2, 1, ("list", ()))
        self.assertEqual(found, tells(3, command) + answer(2, 1, 3, "ok", ("a", "c")))

    def test_several_answers_at_once(self):
        porter = new_porter()
        for client in (4, 2, 3):
            porter.call(client, 1, ("list", ()))
        commands = [("do", client, 1, ("list", ())) for client in (3, 4, 2)]
        found = answer(2, 1, 3, "ok", ()) + answer(3, 1, 1, "ok", ()) + answer(4, 1, 2, "ok", ())
        self.assertEqual(learn(porter, 1, *commands), found)
        self.assertEqual(porter.jobs(), [])

    def test_while_a_writer_waits_the_next_job_goes_on(self):
        porter = new_porter()
        learn(porter, 1, create(4, 1, "a"))
        porter.call(1, 1, ("write", ("a",), 0, (1, 2)))
        porter.call(2, 1, ("list", ()))
        puts = sends(Writer(SMALL, 2, (1, 2)).letters())
        self.assertEqual(decide(porter, 2, FIRST), tells(2, ("intend", 1, 1)) + puts + asks(3, FIRST))
        self.assertEqual(promise(porter, 3, FIRST), votes(3, FIRST, ("do", 2, 1, ("list", ()))))

    def test_writers_of_two_jobs(self):
        porter = new_porter()
        learn(porter, 1, create(4, 1, "a"), ("intend", 2, 1), ("intend", 1, 1))
        two, three = Writer(SMALL, 2, (1, 2)), Writer(SMALL, 3, (3,))
        self.assertEqual(porter.call(2, 1, ("write", ("a",), 0, (1, 2))), sends(two.letters()))
        self.assertEqual(porter.call(1, 1, ("write", ("a",), 5, (3,))), sends(three.letters()))
        # An acknowledgement goes to the writer of its ticket.
        for index in (0, 1):
            self.assertEqual(porter.letter(shelf_of(SMALL, 2, index), ("kept", 2, index)), [])
        self.assertEqual(porter.letter(shelf_of(SMALL, 3, 2), ("kept", 3, 2)), [])
        found = porter.letter(shelf_of(SMALL, 2, 2), ("kept", 2, 2))
        self.assertEqual(found, asks(4, FIRST))
        commit = ("commit", 2, 2, 1, ("a",), 0, 2)
        self.assertEqual(promise(porter, 4, FIRST), votes(4, FIRST, commit))
        self.assertEqual(vote(porter, 4, FIRST), tells(4, commit) + answer(2, 1, 4, "ok", 2))


class WriteTest(unittest.TestCase):

    def start(self, octets=(5, 6, 7), at=0):
        """A porter whose job has the ticket 2."""
        porter = new_porter()
        learn(porter, 1, create(2, 1, "a"), ("intend", 1, 1))
        effects = porter.call(1, 1, ("write", ("a",), at, octets))
        self.assertEqual(effects, sends(Writer(SMALL, 2, octets).letters()))
        return porter

    def keep(self, porter, ticket, *indexes):
        found = []
        for index in indexes:
            found += porter.letter(shelf_of(SMALL, ticket, index), ("kept", ticket, index))
        return found

    def test_safe_at_the_third_acknowledgement(self):
        porter = self.start()
        self.assertEqual(self.keep(porter, 2, 3, 1), [])
        self.assertEqual(self.keep(porter, 2, 1, 3), [])
        self.assertEqual(self.keep(porter, 2, 0), asks(3, FIRST))
        self.assertEqual(self.keep(porter, 2, 2), [])

    def test_acknowledgements_that_do_not_count(self):
        porter = self.start()
        self.keep(porter, 2, 0, 1)
        strange = (("s2", 2, 2), ("s0", 2, 3), ("s0", 3, 1), ("k0", 2, 2), ("p1", 2, 2), ("s0", 2, 6))
        for sender, ticket, index in strange:
            self.assertEqual(porter.letter(sender, ("kept", ticket, index)), [])

    def test_the_size_of_the_file_and_an_error(self):
        for at, kind, value in ((10, "ok", 13), (253, "ok", 256), (254, "large", ())):
            porter = self.start(at=at)
            self.keep(porter, 2, 0, 1, 2)
            found = decide(porter, 3, FIRST)
            self.assertEqual(found, tells(3, ("commit", 2, 1, 1, ("a",), at, 3)) + answer(1, 1, 3, kind, value))

    def test_a_ticket_that_was_forgotten(self):
        porter = self.start()
        # The ticket is dead, and the job starts again.
        self.assertEqual(learn(porter, 3, ("forget", 2)), asks(4, FIRST))
        self.assertEqual(promise(porter, 4, FIRST), votes(4, FIRST, ("intend", 1, 1)))
        puts = sends(Writer(SMALL, 4, (5, 6, 7)).letters())
        self.assertEqual(vote(porter, 4, FIRST), tells(4, ("intend", 1, 1)) + puts)
        # What is acknowledged for the old ticket does not count.
        self.assertEqual(self.keep(porter, 2, 0, 1, 2, 3), [])
        self.assertEqual(self.keep(porter, 4, 3, 1), [])
        self.assertEqual(self.keep(porter, 4, 2), asks(5, FIRST))

    def test_another_ticket_at_once(self):
        porter = self.start()
        self.keep(porter, 2, 0, 1)
        puts = sends(Writer(SMALL, 4, (5, 6, 7)).letters())
        self.assertEqual(learn(porter, 3, ("forget", 2), ("intend", 1, 1)), puts)

    def test_a_commit_that_comes_too_late(self):
        porter = self.start()
        self.keep(porter, 2, 0, 1, 2)
        promise(porter, 3, FIRST)
        # The forget of another porter stands before it.
        found = learn(porter, 3, ("forget", 2))
        self.assertEqual(found, asks(4, FIRST))
        self.assertEqual(promise(porter, 4, FIRST), votes(4, FIRST, ("intend", 1, 1)))

    def test_the_other_porter_commits(self):
        porter = self.start()
        commit = ("commit", 2, 1, 1, ("a",), 0, 3)
        self.assertEqual(learn(porter, 3, commit), answer(1, 1, 3, "ok", 3))
        self.assertEqual(porter.jobs(), [])
        self.assertEqual(self.keep(porter, 2, 0, 1, 2), [])

    def test_a_ticket_of_another_call(self):
        """Open, but not for this call."""
        porter = new_porter()
        learn(porter, 1, create(2, 1, "a"), ("intend", 1, 1), create(1, 1, "b"))
        self.assertEqual(porter.call(1, 2, ("write", ("a",), 0, (1,))), asks(4, FIRST))
        self.assertEqual(promise(porter, 4, FIRST), votes(4, FIRST, ("intend", 1, 2)))

    def test_most_and_fewest_octets(self):
        for count in (1, 64):
            octets = tuple(range(count))
            porter = self.start(octets)
            self.keep(porter, 2, 0, 1, 2)
            self.assertEqual(promise(porter, 3, FIRST), votes(3, FIRST, ("commit", 2, 1, 1, ("a",), 0, count)))


class ReadTest(unittest.TestCase):

    LOG = (create(4, 1, "a"), ("intend", 4, 2), ("commit", 2, 4, 2, ("a",), 2, 3))
    OCTETS = (5, 6, 7)

    def start(self, at=0, count=99, me="p0"):
        """A porter whose job has an answer, and waits for pieces."""
        porter = new_porter(me)
        learn(porter, 1, *self.LOG, ("do", 1, 1, ("read", ("a",), at, count)))
        return porter, porter.call(1, 1, ("read", ("a",), at, count))

    def gets(self, ticket=2):
        return to_all(("get", ticket), SHELVES)

    def test_a_reader(self):
        porter, effects = self.start(count=4)
        self.assertEqual(effects, self.gets())
        self.assertEqual(porter.jobs(), [(1, 1)])
        pieces = pieces_of(SMALL, 2, self.OCTETS)
        self.assertEqual(porter.letter(pieces[1][0], ("piece", *pieces[1][1:])), [])
        self.assertEqual(porter.call(1, 1, ("read", ("a",), 0, 4)), [])
        found = porter.letter(pieces[3][0], ("piece", *pieces[3][1:]))
        self.assertEqual(found, answer(1, 1, 4, "ok", (0, 0, 5, 6)))
        self.assertEqual(porter.jobs(), [])
        # Asked again, the pieces are gathered again.
        self.assertEqual(porter.call(1, 1, ("read", ("a",), 0, 4)), self.gets())

    def test_it_wants_no_command(self):
        porter, _ = self.start()
        found = quiet(porter, 1)
        self.assertEqual(found, self.gets() + reads(5))
        self.assertEqual(quiet(porter, 4), self.gets() + reads(5))

    def test_without_pieces(self):
        porter, effects = self.start(at=0, count=2)
        self.assertEqual(effects, answer(1, 1, 4, "ok", (0, 0)))
        porter, effects = self.start(at=5)
        self.assertEqual(effects, answer(1, 1, 4, "ok", ()))
        self.assertEqual(porter.jobs(), [])

    def test_an_error(self):
        porter = new_porter()
        learn(porter, 1, ("do", 1, 1, ("read", ("b",), 0, 4)))
        self.assertEqual(porter.call(1, 1, ("read", ("b",), 0, 4)), answer(1, 1, 1, "missing", ()))

    def test_letters_and_the_answer_in_one(self):
        """The answer of a decided read comes behind the letters of the proposal."""
        porter = new_porter()
        learn(porter, 1, create(4, 1, "a"), ("do", 4, 2, ("cut", ("a",), 3)))
        op = ("read", ("a",), 1, 9)
        porter.call(1, 1, op)
        self.assertEqual(decide(porter, 3, FIRST), tells(3, ("do", 1, 1, op)) + answer(1, 1, 3, "ok", (0, 0)))

    def test_a_write_that_comes_between(self):
        """The answer is that of the slot, although the file has changed."""
        porter, _ = self.start()
        learn(porter, 5, ("intend", 4, 3), ("commit", 5, 4, 3, ("a",), 0, 8), ("do", 4, 4, ("remove", ("a",))))
        found = []
        for shelf, *piece in pieces_of(SMALL, 2, self.OCTETS)[:2]:
            found += porter.letter(shelf, ("piece", *piece))
        self.assertEqual(found, answer(1, 1, 4, "ok", (0, 0, 5, 6, 7)))

    def test_a_later_call_ends_it(self):
        porter, _ = self.start()
        self.assertEqual(learn(porter, 5, ("do", 1, 2, ("list", ()))), [])
        self.assertEqual(porter.jobs(), [])
        for shelf, *piece in pieces_of(SMALL, 2, self.OCTETS):
            self.assertEqual(porter.letter(shelf, ("piece", *piece)), [])

    def test_two_readers(self):
        porter = new_porter()
        read = ("read", ("a",), 2, 3)
        learn(porter, 1, *self.LOG, ("do", 3, 1, read), ("do", 1, 1, read))
        self.assertEqual(porter.call(3, 1, read), self.gets())
        self.assertEqual(porter.call(1, 1, read), self.gets())
        found = []
        for shelf, *piece in pieces_of(SMALL, 2, self.OCTETS)[2:]:
            found += porter.letter(shelf, ("piece", *piece))
        self.assertEqual(found, answer(1, 1, 5, "ok", self.OCTETS) + answer(3, 1, 4, "ok", self.OCTETS))

    def test_a_read_that_is_decided_elsewhere(self):
        porter = new_porter("p1", 3)
        learn(porter, 1, *self.LOG)
        op = ("read", ("a",), 0, 5)
        self.assertEqual(porter.call(2, 1, op), asks(4, (1, 1, 3)))
        self.assertEqual(learn(porter, 4, ("do", 2, 1, op)), self.gets())


if __name__ == "__main__":
    unittest.main()
