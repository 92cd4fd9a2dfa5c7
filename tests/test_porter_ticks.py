"""Part 7: ticks, refusals, what a porter learns, and its care (7.10, 7.11, 7.15 to 7.18)."""

import unittest

from blobtools import pieces_of, shelf_of
from cairn.config import Config
from cairn.porter import Porter
from cairn.writer import Writer
from porters import (
    KEEPERS, NOOP, SHELVES, SMALL, answer, asks, create, decide, learn, new_porter, promise, quiet, reads, sends,
    tells, to_all, vote, votes,
)

MAKE = ("create", ("a",))
FIRST = (1, 0, 1)
LISTS = to_all(("list",), SHELVES)


def refuse(porter, slot, ballot, promised, keeper="k1"):
    return porter.letter(keeper, ("refuse", slot, ballot, promised))


class RefusalTest(unittest.TestCase):

    def test_pauses(self):
        for me, number, pause in (("p0", 0, 1), ("p1", 1, 7)):
            porter = new_porter(me)
            ballot = (1, number, 1)
            porter.call(1, 1, MAKE)
            self.assertEqual(refuse(porter, 1, ballot, (4, 1, 9)), [])
            for tick in range(1, pause):
                self.assertNotIn("ask", [effect[2][0] for effect in porter.tick()])
                self.assertEqual(porter.call(2, 1, MAKE), [])
            found = porter.tick()
            self.assertEqual(found[-3:], asks(1, (5, number, 1)))
            self.assertEqual(promise(porter, 1, (5, number, 1)), votes(1, (5, number, 1), create(1, 1, "a")))

    def test_a_pause_holds_for_each_slot(self):
        porter = new_porter("p1")
        porter.call(1, 1, MAKE)
        refuse(porter, 1, (1, 1, 1), (2, 0, 1))
        self.assertEqual(learn(porter, 1, create(2, 1, "a")), [])
        quiet(porter, 6)
        self.assertEqual(porter.tick()[-3:], asks(2, (1, 1, 1)))

    def test_refused_while_voting(self):
        porter = new_porter()
        porter.call(1, 1, MAKE)
        promise(porter, 1, FIRST)
        vote(porter, 1, FIRST, "k0")
        self.assertEqual(refuse(porter, 1, FIRST, (1, 1, 1)), [])
        self.assertEqual(vote(porter, 1, FIRST, "k1", "k2"), [])
        self.assertEqual(porter.tick(), reads(1) + asks(1, (2, 0, 1)))

    def test_ballots_go_up(self):
        porter = new_porter()
        porter.call(1, 1, MAKE)
        refuse(porter, 1, FIRST, (7, 1, 2))
        self.assertEqual(porter.tick()[-3:], asks(1, (8, 0, 1)))
        # A refusal by less than the ballot, or of an earlier one, changes nothing.
        self.assertEqual(refuse(porter, 1, (8, 0, 1), (7, 1, 2)), [])
        self.assertEqual(refuse(porter, 1, FIRST, (9, 1, 2)), [])
        self.assertEqual(refuse(porter, 2, (8, 0, 1), (9, 1, 2)), [])
        self.assertEqual(porter.tick()[:3], asks(1, (8, 0, 1)))
        refuse(porter, 1, (8, 0, 1), (8, 1, 1))
        self.assertEqual(porter.tick()[-3:], asks(1, (9, 0, 1)))
        # In the next slot the first ballot is free.
        self.assertEqual(decide(porter, 1, (9, 0, 1)), tells(1, create(1, 1, "a")) + answer(1, 1, 1, "ok", ()))
        self.assertEqual(porter.call(1, 2, MAKE), asks(2, FIRST))

    def test_strangers_refuse(self):
        porter = new_porter()
        porter.call(1, 1, MAKE)
        for sender in ("p1", "s0", "k3", "", "k"):
            self.assertEqual(refuse(porter, 1, FIRST, (2, 1, 1), sender), [])
        self.assertEqual(promise(porter, 1, FIRST), votes(1, FIRST, create(1, 1, "a")))


class DecidedTest(unittest.TestCase):

    def test_a_command_of_another(self):
        """Point 7.18: what was promised must be proposed; the own command is proposed again."""
        porter = new_porter()
        porter.call(1, 1, MAKE)
        other = create(3, 1, "b")
        promise(porter, 1, FIRST, "k0", voted=(1, 0, 0), command=other)
        self.assertEqual(promise(porter, 1, FIRST, "k2"), votes(1, FIRST, other))
        self.assertEqual(vote(porter, 1, FIRST), tells(1, other) + asks(2, FIRST))
        found = tells(2, create(1, 1, "a")) + answer(1, 1, 2, "ok", ())
        self.assertEqual(decide(porter, 2, FIRST), found)

    def test_a_command_that_is_decided_twice(self):
        porter = new_porter()
        porter.call(1, 1, MAKE)
        mine = create(1, 1, "a")
        self.assertEqual(learn(porter, 1, NOOP), asks(2, FIRST))
        self.assertEqual(learn(porter, 2, mine, mine, mine), answer(1, 1, 2, "ok", ()))
        self.assertEqual(porter.reach(), 4)

    def test_decided_for_the_proposal(self):
        porter = new_porter()
        porter.call(1, 1, MAKE)
        other = create(3, 1, "b")
        found = porter.letter("k1", ("decided", 1, other))
        self.assertEqual(found, tells(1, other) + asks(2, FIRST))
        self.assertEqual(porter.known(1), other)
        # Also while voting, with the own command.
        promise(porter, 2, FIRST)
        found = porter.letter("k1", ("decided", 2, create(1, 1, "a")))
        self.assertEqual(found, tells(2, create(1, 1, "a")) + answer(1, 1, 2, "ok", ()))

    def test_decided_for_another_slot(self):
        porter = new_porter()
        porter.call(1, 1, MAKE)
        self.assertEqual(porter.letter("k1", ("decided", 2, create(2, 1, "b"))), [])
        self.assertEqual(porter.reach(), 0)
        # The slot is known when its turn comes.
        found = decide(porter, 1, FIRST)
        self.assertEqual(found, tells(1, create(1, 1, "a")) + answer(1, 1, 1, "ok", ()))
        self.assertEqual(porter.reach(), 2)

    def test_decided_without_a_proposal(self):
        porter = new_porter()
        self.assertEqual(porter.letter("k2", ("decided", 1, create(2, 1, "b"))), [])
        self.assertEqual((porter.reach(), porter.known(1)), (1, create(2, 1, "b")))
        self.assertEqual(porter.letter("k2", ("decided", 1, NOOP)), [])
        self.assertEqual(porter.known(1), create(2, 1, "b"))

    def test_strangers(self):
        porter = new_porter()
        for sender in ("p1", "s0", "k3", "", "k00"):
            self.assertEqual(porter.letter(sender, ("decided", 1, NOOP)), [])
            self.assertEqual(porter.letter(sender, ("log", 1, ((1, (), NOOP),))), [])
        self.assertEqual(porter.reach(), 0)
        porter.call(1, 1, MAKE)
        for sender in ("p1", "s0", "k3", "", "k00"):
            self.assertEqual(porter.letter(sender, ("decided", 1, NOOP)), [])
            for _ in range(2):
                self.assertEqual(promise(porter, 1, FIRST, sender), [])
        self.assertEqual(porter.reach(), 0)


class LearnTest(unittest.TestCase):

    def test_votes_of_a_majority(self):
        porter = new_porter()
        entry = (1, (3, 1, 2), create(2, 1, "b"))
        porter.letter("k0", ("log", 1, (entry,)))
        self.assertEqual(porter.reach(), 0)
        porter.letter("k2", ("log", 1, (entry,)))
        self.assertEqual((porter.reach(), porter.known(1)), (1, create(2, 1, "b")))

    def test_a_gap(self):
        porter = new_porter()
        learn(porter, 2, create(2, 1, "b"))
        self.assertEqual(porter.reach(), 0)
        learn(porter, 1, NOOP)
        self.assertEqual([porter.reach()] + [porter.known(slot) for slot in (1, 2)], [2, NOOP, create(2, 1, "b")])

    def test_a_proposal_is_given_up(self):
        porter = new_porter()
        porter.call(1, 1, MAKE)
        promise(porter, 1, FIRST, "k0")
        self.assertEqual(learn(porter, 1, NOOP, NOOP), asks(3, FIRST))
        # Replies to the old one are late.
        self.assertEqual(promise(porter, 1, FIRST, "k1"), [])
        self.assertEqual(vote(porter, 1, FIRST), [])
        self.assertEqual(promise(porter, 3, FIRST), votes(3, FIRST, create(1, 1, "a")))

    def test_values_that_are_no_commands(self):
        """They count as noops, whatever a machine would make of them."""
        values = (
            (), ("hello",), ("do", 5, 1, MAKE), ("do", 1, 1, ("create", ("A",))), ("do", 1, 1, ("create", "a")),
            ("do", 1, 1, ("write", ("a",), 0, (1,))), ("intend", 1, 0), ("commit", 1, 1, 1, ("a",), 0, 65), (7,),
            ("do", 1, 1, ("make", ("a", "b", "c", "d", "e"))), ("intend", 9, 1), ("forget", 0), ("noop", 1),
        )
        porter = new_porter()
        self.assertEqual(learn(porter, 1, *values), [])
        self.assertEqual(porter.reach(), len(values))
        self.assertEqual([porter.known(slot + 1) for slot in range(len(values))], list(values))
        slot = len(values) + 1
        self.assertEqual(porter.call(1, 1, MAKE), asks(slot, FIRST))
        found = decide(porter, slot, FIRST)
        self.assertEqual(found, tells(slot, create(1, 1, "a")) + answer(1, 1, slot, "ok", ()))

    def test_letters_that_concern_nothing(self):
        letters = [
            ("hello",), ("promise", 1, FIRST, (), ()), ("promise",), ("voted", 1, FIRST),
            ("refuse", 1, FIRST, (9, 9, 9)), ("refuse", 1), ("decided", 1), ("log", 1),
            ("kept", 1, 0), ("kept",), ("piece", 1, 0, (1,)), ("have", ()),
            ("missing", 1), ("other", 1, 1), ("crowded", 1), ("dropped", 1), ("ask", 1, FIRST), ("tell", 1, NOOP),
        ]
        porter = new_porter()
        for sender in KEEPERS + SHELVES + ("p1", "x"):
            for letter in letters:
                self.assertEqual(porter.letter(sender, letter), [])
        self.assertEqual((porter.reach(), porter.jobs()), (0, []))
        self.assertEqual(porter.call(1, 1, MAKE), asks(1, FIRST))


class TickTest(unittest.TestCase):

    def test_reads_without_a_job(self):
        porter = new_porter()
        for tick in range(1, 30):
            found = [effect for effect in porter.tick() if effect[2][0] == "read"]
            self.assertEqual(found, reads(1) if tick % 4 == 1 else [])

    def test_reads_with_a_job(self):
        porter = new_porter()
        learn(porter, 1, NOOP)
        porter.call(1, 1, MAKE)
        for _ in range(5):
            self.assertEqual(porter.tick(), asks(2, FIRST) + reads(2))
        decide(porter, 2, FIRST)
        found = [effect for _ in range(3) for effect in porter.tick() if effect[2][0] == "read"]
        self.assertEqual(found, [])

    def test_letters_of_a_proposal(self):
        porter = new_porter()
        porter.call(1, 1, MAKE)
        promise(porter, 1, FIRST, "k1")
        ask = ("ask", 1, FIRST)
        self.assertEqual(porter.tick(), to_all(ask, ("k0", "k2")) + reads(1))
        promise(porter, 1, FIRST, "k0")
        found = votes(1, FIRST, create(1, 1, "a"))
        self.assertEqual(porter.tick(), found + reads(1))
        vote(porter, 1, FIRST, "k0")
        self.assertEqual(porter.tick(), found[1:] + reads(1))

    def test_the_order(self):
        """The proposal, the writers, the readers, the reads, the care."""
        porter = new_porter()
        read = ("read", ("a",), 0, 3)
        learn(porter, 1, create(4, 1, "a"), ("intend", 4, 2), ("commit", 2, 4, 2, ("a",), 0, 3))
        learn(porter, 4, ("intend", 2, 1), ("intend", 4, 3), ("do", 1, 1, read), ("do", 3, 1, read))
        for client, op in ((1, read), (2, ("write", ("a",), 0, (7,))), (3, read)):
            porter.call(client, 1, op)
        porter.call(4, 3, ("write", ("a",), 0, (8, 9)))
        four, five = Writer(SMALL, 4, (7,)), Writer(SMALL, 5, (8, 9))
        gets = to_all(("get", 2), SHELVES)
        again = sends(four.letters() + five.letters()) + gets + gets
        for _ in range(5):
            self.assertEqual(porter.tick(), again + reads(8))
        self.assertEqual(porter.tick(), again + reads(8) + LISTS)
        # A writer that is safe sends nothing more, although it is not full. The job goes on.
        for index in (0, 1, 2):
            found = porter.letter(shelf_of(SMALL, 4, index), ("kept", 4, index))
        self.assertEqual(found, asks(8, FIRST))
        piece = pieces_of(SMALL, 2, (5, 6, 7))[0]
        porter.letter(piece[0], ("piece", *piece[1:]))
        gets = [effect for effect in gets if effect[1] != piece[0]]
        again = asks(8, FIRST) + sends(five.letters()) + gets + gets
        self.assertEqual(porter.tick(), again + reads(8) + LISTS)

    def test_a_writer_with_an_old_ticket(self):
        """Until the job has a new one, it has no reply either."""
        porter = new_porter()
        learn(porter, 1, create(4, 1, "a"), ("intend", 1, 1))
        porter.call(1, 1, ("write", ("a",), 0, (7,)))
        learn(porter, 3, ("forget", 2))
        puts = sends(Writer(SMALL, 2, (7,)).letters())
        self.assertEqual(porter.tick(), asks(4, FIRST) + puts + reads(4))


class PatienceTest(unittest.TestCase):

    HEARD = ((1, (1, 1, 1), ("do", 2, 1, MAKE)),)

    def asked(self, porter):
        """Whether a tick starts a proposal."""
        return "ask" in [effect[2][0] for effect in porter.tick()]

    def test_at_its_eighth_tick(self):
        porter = new_porter()
        self.assertEqual(porter.letter("k0", ("log", 1, self.HEARD)), [])
        self.assertEqual([self.asked(porter) for _ in range(7)], [False] * 7)
        self.assertEqual(porter.tick()[-3:], asks(1, FIRST))
        self.assertEqual(promise(porter, 1, FIRST), votes(1, FIRST, NOOP))

    def test_it_may_have_been_decided(self):
        porter = new_porter("p1", 4)
        porter.letter("k0", ("log", 1, self.HEARD))
        quiet(porter, 8)
        promise(porter, 1, (1, 1, 4), "k0", voted=(1, 1, 1), command=self.HEARD[0][2])
        self.assertEqual(promise(porter, 1, (1, 1, 4), "k1"), votes(1, (1, 1, 4), self.HEARD[0][2]))

    def test_nothing_heard(self):
        porter = new_porter()
        self.assertEqual([self.asked(porter) for _ in range(60)], [False] * 60)

    def test_what_is_known_is_not_waited_for(self):
        porter = new_porter()
        learn(porter, 1, NOOP, NOOP, NOOP)
        self.assertEqual([self.asked(porter) for _ in range(60)], [False] * 60)

    def test_a_slot_that_is_applied_sets_it_back(self):
        porter = new_porter()
        porter.letter("k0", ("log", 1, ((4, (1, 1, 1), NOOP),)))
        quiet(porter, 7)
        learn(porter, 1, NOOP)
        self.assertEqual([self.asked(porter) for _ in range(7)], [False] * 7)
        learn(porter, 2, NOOP)
        self.assertEqual([self.asked(porter) for _ in range(8)], [False] * 7 + [True])

    def test_it_becomes_zero_when_all_is_known(self):
        porter = new_porter()
        porter.letter("k0", ("log", 1, self.HEARD))
        quiet(porter, 5)
        learn(porter, 1, NOOP)
        porter.tick()
        porter.letter("k0", ("log", 2, ((2, (1, 1, 1), NOOP),)))
        self.assertEqual([self.asked(porter) for _ in range(8)], [False] * 7 + [True])

    def test_at_nine_behind_a_pause(self):
        """It keeps growing while nothing can be proposed."""
        porter = new_porter()
        porter.call(1, 1, MAKE)
        porter.letter("k0", ("log", 1, ((1, (1, 1, 1), NOOP), (2, (1, 1, 1), NOOP))))
        quiet(porter, 8)
        # The job's command comes first, whatever the patience is.
        self.assertEqual(promise(porter, 1, FIRST), votes(1, FIRST, create(1, 1, "a")))
        refuse(porter, 1, FIRST, (3, 1, 1))
        # The ninth tick ends the pause.
        self.assertEqual(porter.tick()[-3:], asks(1, (4, 0, 1)))
        found = promise(porter, 1, (4, 0, 1))
        self.assertEqual(found, votes(1, (4, 0, 1), create(1, 1, "a")))
        # The job is over; the second slot is waited for anew.
        vote(porter, 1, (4, 0, 1))
        self.assertEqual(porter.jobs(), [])
        self.assertEqual([self.asked(porter) for _ in range(8)], [False] * 7 + [True])

    def test_a_noop_again_behind_a_refusal(self):
        for me, number, pause in (("p0", 0, 1), ("p1", 1, 7)):
            porter = new_porter(me)
            porter.letter("k0", ("log", 1, self.HEARD))
            quiet(porter, 8)
            refuse(porter, 1, (1, number, 1), (2, 1, 9))
            self.assertEqual([self.asked(porter) for _ in range(pause)], [False] * (pause - 1) + [True])
            self.assertEqual(promise(porter, 1, (3, number, 1)), votes(1, (3, number, 1), NOOP))


class CareTest(unittest.TestCase):

    def with_idle_ticket(self):
        porter = new_porter()
        learn(porter, 1, create(1, 1, "a"), ("intend", 1, 2), ("commit", 2, 1, 2, ("a",), 0, 1))
        learn(porter, 4, ("do", 1, 3, ("remove", ("a",))))
        return porter

    def test_a_command_of_the_care(self):
        porter = self.with_idle_ticket()
        asked = [any(effect[2][0] == "ask" for effect in porter.tick()) for _ in range(11)]
        self.assertEqual(asked, [False] * 10 + [True])
        self.assertEqual(promise(porter, 5, FIRST), votes(5, FIRST, ("forget", 2)))
        self.assertEqual(vote(porter, 5, FIRST), tells(5, ("forget", 2)))

    def test_jobs_and_patience_come_first(self):
        porter = self.with_idle_ticket()
        quiet(porter, 10)
        porter.letter("s0", ("have", ()))
        porter.call(2, 1, MAKE)
        porter.tick()
        self.assertEqual(promise(porter, 5, FIRST), votes(5, FIRST, create(2, 1, "a")))
        # Behind the job, at the same tick, the care has its turn.
        found = vote(porter, 5, FIRST)
        self.assertEqual(found, tells(5, create(2, 1, "a")) + answer(2, 1, 5, "ok", ()) + asks(6, FIRST))
        self.assertEqual(promise(porter, 6, FIRST), votes(6, FIRST, ("forget", 2)))
        porter = self.with_idle_ticket()
        porter.letter("k0", ("log", 5, ((5, (1, 1, 1), create(3, 1, "c")),)))
        quiet(porter, 7)
        porter.tick()
        self.assertEqual(promise(porter, 5, FIRST), votes(5, FIRST, NOOP))

    def test_letters_of_shelves_go_to_the_care(self):
        porter = new_porter()
        learn(porter, 1, create(1, 1, "a"), ("intend", 1, 2), ("commit", 2, 1, 2, ("a",), 0, 3))
        self.assertEqual(quiet(porter, 6), LISTS)
        for shelf in SHELVES:
            self.assertEqual(porter.letter(shelf, ("have", () if shelf == "s3" else (2,))), [])
        self.assertEqual(quiet(porter, 1), to_all(("get", 2), SHELVES[:3]))
        pieces = {piece[0]: piece for piece in pieces_of(SMALL, 2, (5, 6, 7))}
        self.assertEqual(porter.letter("s0", ("piece", *pieces["s0"][1:])), [])
        found = porter.letter("s1", ("piece", *pieces["s1"][1:]))
        self.assertEqual(found, [("send", "s3", ("put", *pieces["s3"][1:]))])
        self.assertEqual(porter.letter("s3", ("kept", *pieces["s3"][1:3])), [])
        # The repair is done: nothing is sent but the reads of a ninth tick.
        self.assertEqual([porter.tick(), porter.tick()], [[], reads(4)])

    def test_letters_of_others_do_not(self):
        porter = new_porter()
        quiet(porter, 6)
        for sender in ("s4", "k0", "p1"):
            porter.letter(sender, ("have", ()))
        self.assertEqual(porter.tick(), LISTS)

    def test_effects_of_the_care_before_those_of_the_work(self):
        """At the 11th tick a survey goes on, and a forget is proposed."""
        porter = self.with_idle_ticket()
        quiet(porter, 10)
        self.assertEqual(porter.tick(), LISTS + asks(5, FIRST))


class ResultsTest(unittest.TestCase):

    def test_what_is_returned_is_new(self):
        porter = new_porter()
        porter.call(1, 1, MAKE)
        porter.jobs().clear()
        porter.tick().clear()
        self.assertEqual(porter.jobs(), [(1, 1)])
        self.assertEqual(porter.tick(), asks(1, FIRST) + reads(1))
        self.assertIsInstance(porter.reach(), int)

    def test_arguments_by_their_names(self):
        porter = Porter(me="p1", config=Config(1, 1, 1, 0, 64), life=3)
        effects = porter.call(client=1, number=1, op=MAKE)
        self.assertEqual(effects, [("send", "k0", ("ask", 1, (1, 1, 3)))])
        self.assertEqual(porter.letter(sender="k0", letter=("hello",)), [])


if __name__ == "__main__":
    unittest.main()
