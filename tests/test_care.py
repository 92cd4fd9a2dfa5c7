"""Part 8: the care of a porter (8.1, 8.2, 8.7 to 8.9)."""

import itertools
import unittest

from blobtools import SMALL, octets_of_size, pieces_of, shelf_of, word_of
from cairn.care import Care
from cairn.config import Config
from cairn.names import Names

ALL = ("s0", "s1", "s2", "s3")
PATHS = [("a",), ("b",), ("c",), ("d",), ("e",), ("f",)]


def sends(*letters):
    return [("send", to, letter) for to, letter in letters]


def lists(*shelves):
    return sends(*[(shelf, ("list",)) for shelf in shelves])


def gets(ticket, *shelves):
    return sends(*[(shelf, ("get", ticket)) for shelf in shelves])


def puts(config, ticket, octets, *shelves):
    word = word_of(config, octets)
    indexes = {shelf_of(config, ticket, index): index for index in range(config.shelves)}
    return sends(*[(shelf, ("put", ticket, indexes[shelf], word[indexes[shelf]])) for shelf in shelves])


def drops(*pairs):
    return sends(*[(shelf, ("drop", ticket)) for shelf, ticket in pairs])


class Store:
    """A machine with tickets in the states that a test asks for."""

    def __init__(self):
        self.names = Names()
        self.slot = 0
        self.numbers = {1: 0, 2: 0, 3: 0, 4: 0}
        self.paths = iter(PATHS)

    def apply(self, command):
        self.slot += 1
        self.names.apply(self.slot, command)
        return self.slot

    def next(self, client):
        self.numbers[client] += 1
        return self.numbers[client]

    def do(self, client, op):
        return self.apply(("do", client, self.next(client), op))

    def open(self, client=1):
        """A ticket whose call may still be carried out."""
        return self.apply(("intend", client, self.numbers[client] + 1))

    def wanted(self, size):
        """A ticket to which a file refers."""
        path = next(self.paths)
        self.do(4, ("create", path))
        ticket = self.apply(("intend", 4, self.numbers[4] + 1))
        self.apply(("commit", ticket, 4, self.next(4), path, 0, size))
        return ticket, path

    def idle(self):
        ticket, path = self.wanted(3)
        self.do(4, ("remove", path))
        return ticket

    def dead(self):
        ticket = self.open(2)
        self.apply(("forget", ticket))
        return ticket

    def left_over(self, client=2):
        """An open ticket whose call was carried out in another way."""
        ticket = self.open(client)
        self.do(client, ("list", ()))
        return ticket


class PhasesTest(unittest.TestCase):

    def phases(self, count, machine=None, config=SMALL):
        """The care after some ticks, and its phase behind each of them."""
        care = Care(config)
        found = []
        for _ in range(count):
            care.tick(machine or Names())
            found.append(care.phase())
        return care, found

    def test_at_first(self):
        self.assertEqual(Care(SMALL).phase(), "resting")

    def test_ended_by_their_bounds(self):
        """Without answers, and without repairs, a cycle is 6, 6 and 1 ticks long."""
        _, found = self.phases(40)
        cycle = ["resting"] * 6 + ["surveying"] * 6 + ["mending"]
        self.assertEqual(["resting"] + found, (cycle * 4)[:41])

    def test_the_longest_cycle(self):
        store = Store()
        ticket, _ = store.wanted(3)
        care = Care(SMALL)
        found = [care.phase()]
        for _ in range(60):
            care.tick(store.names)
            care.letter("s0", ("have", ()))
            found.append(care.phase())
        cycle = ["resting"] * 6 + ["surveying"] * 6 + ["mending"] * 10
        self.assertEqual(found, (cycle * 3)[:61])

    def test_letters_of_each_tick(self):
        care = Care(SMALL)
        machine = Names()
        for _ in range(5):
            self.assertEqual(care.tick(machine), [])
        for _ in range(6):
            self.assertEqual(care.tick(machine), lists(*ALL))
        self.assertEqual(care.tick(machine), [])
        self.assertEqual(care.phase(), "mending")
        self.assertEqual(care.tick(machine), [])
        self.assertEqual(care.phase(), "resting")

    def test_a_survey_that_ends_early(self):
        for last in range(6, 12):
            care, _ = self.phases(6)
            for shelf in ALL[:3]:
                care.letter(shelf, ("have", ()))
            for _ in range(6, last):
                self.assertEqual(care.tick(Names()), lists("s3"))
                self.assertEqual(care.phase(), "surveying")
            care.letter("s3", ("have", ()))
            self.assertEqual(care.phase(), "surveying")
            self.assertEqual(care.tick(Names()), [])
            self.assertEqual(care.phase(), "mending")

    def test_a_survey_of_other_shelves(self):
        care, _ = self.phases(6)
        for shelf in ("s0", "s0", "s1", "s4", "k0", "s2"):
            self.assertEqual(care.letter(shelf, ("have", ())), [])
        self.assertEqual(care.tick(Names()), lists("s3"))

    def test_an_answer_to_an_earlier_survey(self):
        care = Care(SMALL)
        for shelf in ALL:
            self.assertEqual(care.letter(shelf, ("have", ())), [])
        for _ in range(5):
            care.tick(Names())
        self.assertEqual(care.tick(Names()), lists(*ALL))
        self.assertEqual(care.phase(), "surveying")


class MendingTest(unittest.TestCase):

    def mending(self, store, listings, config=SMALL):
        """A care at the tick at which it begins to mend, and the effects of that tick."""
        care = Care(config)
        for _ in range(6):
            care.tick(store.names)
        for shelf, tickets in listings.items():
            care.letter(shelf, ("have", tickets))
        effects = care.tick(store.names)
        while care.phase() == "surveying":
            effects = care.tick(store.names)
        self.assertEqual(care.phase(), "mending")
        return care, effects

    def test_drops_once_and_requests_again(self):
        store = Store()
        five, _ = store.wanted(3)
        dead = store.dead()
        eight, _ = store.wanted(1)
        listings = {"s0": (five, dead, eight), "s1": (), "s2": (five, eight), "s3": (five, dead, eight)}
        care, effects = self.mending(store, listings)
        asked = gets(five, "s0", "s2", "s3") + gets(eight, "s0", "s2", "s3")
        self.assertEqual(effects, drops(("s0", dead), ("s3", dead)) + asked)
        for _ in range(9):
            self.assertEqual(care.tick(store.names), asked)
            self.assertEqual(care.phase(), "mending")
        self.assertEqual(care.tick(store.names), [])
        self.assertEqual(care.phase(), "resting")

    def test_a_repair_goes_on(self):
        store = Store()
        ticket, _ = store.wanted(3)
        octets = (5, 6, 7)
        lost = shelf_of(SMALL, ticket, 2)
        listings = {shelf: () if shelf == lost else (ticket,) for shelf in ALL}
        care, _ = self.mending(store, listings)
        pieces = pieces_of(SMALL, ticket, octets)
        self.assertEqual(care.letter(*letter_of(pieces[0])), [])
        others = [shelf for shelf in ALL if shelf not in (lost, pieces[0][0])]
        self.assertEqual(care.tick(store.names), gets(ticket, *others))
        # The second piece is enough: the fragment is put at once, and again at each tick.
        self.assertEqual(care.letter(*letter_of(pieces[3])), puts(SMALL, ticket, octets, lost))
        self.assertEqual(care.letter(*letter_of(pieces[1])), [])
        self.assertEqual(care.letter(*letter_of(pieces[3])), [])
        self.assertEqual(care.tick(store.names), puts(SMALL, ticket, octets, lost))
        self.assertEqual(care.letter(lost, ("kept", ticket, 2)), [])
        self.assertEqual(care.phase(), "mending")
        self.assertEqual(care.tick(store.names), [])
        self.assertEqual(care.phase(), "resting")

    def test_two_repairs(self):
        store = Store()
        one, _ = store.wanted(3)
        two, _ = store.wanted(4)
        octets = {one: (5, 6, 7), two: (1, 2, 3, 4)}
        listings = {"s0": (), "s1": (one, two), "s2": (one, two), "s3": (one,)}
        care, effects = self.mending(store, listings)
        self.assertEqual(effects, gets(one, "s1", "s2", "s3") + gets(two, "s1", "s2"))
        by_shelf = {}
        for ticket in octets:
            by_shelf[ticket] = {piece[0]: piece for piece in pieces_of(SMALL, ticket, octets[ticket])}
        for shelf in ("s1", "s2"):
            last = care.letter(*letter_of(by_shelf[two][shelf]))
        self.assertEqual(last, puts(SMALL, two, octets[two], "s0", "s3"))
        self.assertEqual(care.tick(store.names), gets(one, "s1", "s2", "s3") + last)
        for shelf in ("s0", "s3"):
            care.letter(shelf, ("kept", two, by_shelf[two][shelf][2]))
        # What is done is not sent again; the other repair goes on.
        self.assertEqual(care.tick(store.names), gets(one, "s1", "s2", "s3"))
        self.assertEqual(care.phase(), "mending")
        for shelf in ("s1", "s3"):
            last = care.letter(*letter_of(by_shelf[one][shelf]))
        self.assertEqual(last, puts(SMALL, one, octets[one], "s0"))
        care.letter("s0", ("kept", one, by_shelf[one]["s0"][2]))
        self.assertEqual(care.tick(store.names), [])
        self.assertEqual(care.phase(), "resting")

    def test_more_targets_than_can_be_made_anew(self):
        config = Config(3, 6, 2, 1, 64)
        names = config.shelf_names()
        store = Store()
        ticket, _ = store.wanted(5)
        for count in range(1, 7):
            without = names[6 - count:]
            listings = {shelf: () if shelf in without else (ticket,) for shelf in names}
            care, effects = self.mending(store, listings, config)
            targets = without[:4]
            self.assertEqual(effects, gets(ticket, *[shelf for shelf in names if shelf not in targets]))
            octets = octets_of_size(5)
            found = []
            for piece in pieces_of(config, ticket, octets):
                if piece[0] not in targets:
                    found += care.letter(*letter_of(piece))
            self.assertEqual(found, puts(config, ticket, octets, *targets))

    def test_no_shelf_to_spare(self):
        config = Config(3, 3, 3, 0, 64)
        store = Store()
        ticket, _ = store.wanted(5)
        care, effects = self.mending(store, {"s0": (ticket,), "s1": (), "s2": (ticket,)}, config)
        self.assertEqual(effects, [])
        self.assertEqual(care.tick(store.names), [])
        self.assertEqual(care.phase(), "resting")

    def test_shelves_that_have_not_answered(self):
        store = Store()
        ticket, _ = store.wanted(3)
        dead = store.dead()
        care, effects = self.mending(store, {"s1": (dead,), "s2": (ticket,)})
        self.assertEqual(effects, drops(("s1", dead)) + gets(ticket, "s0", "s2", "s3"))

    def test_open_and_idle_tickets_and_unknown_ones(self):
        """Nothing is done about them."""
        store = Store()
        tickets = (store.open(), store.idle(), store.left_over(), store.slot + 1, 500)
        care, effects = self.mending(store, {shelf: tickets for shelf in ALL})
        self.assertEqual(effects, [])
        care, effects = self.mending(store, {shelf: () for shelf in ALL})
        self.assertEqual(effects, [])

    def test_the_machine_of_the_tick_counts(self):
        """A ticket that dies during the survey is dropped."""
        store = Store()
        ticket = store.open()
        care = Care(SMALL)
        for _ in range(6):
            care.tick(store.names)
        for shelf in ALL:
            care.letter(shelf, ("have", (ticket,)))
        store.apply(("forget", ticket))
        self.assertEqual(care.tick(store.names), drops(*[(shelf, ticket) for shelf in ALL]))

    def test_letters_at_the_wrong_time(self):
        """A piece or an acknowledgement changes nothing while there is no such repair."""
        store = Store()
        ticket, _ = store.wanted(3)
        pieces = pieces_of(SMALL, ticket, (5, 6, 7))
        care = Care(SMALL)
        for tick in range(13):
            for piece in pieces:
                if care.phase() != "mending":
                    self.assertEqual(care.letter(*letter_of(piece)), [])
                    self.assertEqual(care.letter(piece[0], ("kept", *piece[1:3])), [])
            care.tick(store.names)
        care, effects = self.mending(store, {"s0": (), "s1": (ticket,)})
        self.assertEqual(effects, gets(ticket, "s1", "s2", "s3"))

    def test_letters_that_concern_nothing(self):
        store = Store()
        ticket, _ = store.wanted(3)
        care, effects = self.mending(store, {"s0": (), "s1": (ticket,)})
        strange = [
            ("missing", ticket), ("other", ticket, 1), ("crowded", ticket), ("dropped", ticket), ("hello",),
            ("have",), ("have", (), ()), ("piece", ticket), ("kept", ticket), ("kept", ticket, 1, 1),
            ("piece", ticket + 1, 0, (5, 6)), ("kept", ticket, 0), ("have", (ticket,)), ("list",),
        ]
        for letter in strange:
            for shelf in ALL:
                self.assertEqual(care.letter(shelf, letter), [])
        self.assertEqual(care.tick(store.names), effects)


def letter_of(piece):
    """The sender and the letter that brings a piece."""
    shelf, ticket, index, octets = piece
    return shelf, ("piece", ticket, index, octets)


class CommandTest(unittest.TestCase):

    def ticked(self, machine, count):
        care = Care(SMALL)
        for _ in range(count):
            care.tick(machine)
        return care

    def test_only_at_one_tick_of_twelve(self):
        store = Store()
        ticket = store.idle()
        care = Care(SMALL)
        self.assertIsNone(care.wanted_command(store.names))
        for tick in range(1, 50):
            care.tick(store.names)
            expected = ("forget", ticket) if tick % 12 == 11 else None
            self.assertEqual(care.wanted_command(store.names), expected)
            self.assertEqual(care.wanted_command(store.names), expected)

    def test_nothing_to_forget(self):
        store = Store()
        store.dead()
        store.wanted(3)
        store.open()
        self.assertIsNone(self.ticked(store.names, 11).wanted_command(store.names))
        self.assertIsNone(self.ticked(Names(), 11).wanted_command(Names()))

    def test_the_least_ticket(self):
        makers = {"idle": Store.idle, "left over": Store.left_over, "dead": Store.dead, "open": Store.open}
        for kinds in itertools.permutations(makers, 4):
            store = Store()
            tickets = {kind: makers[kind](store) for kind in kinds}
            care = self.ticked(store.names, 11)
            first, second = sorted((tickets["idle"], tickets["left over"]))
            with self.subTest(kinds=kinds):
                self.assertEqual(care.wanted_command(store.names), ("forget", first))
                store.apply(("forget", first))
                self.assertEqual(care.wanted_command(store.names), ("forget", second))
                store.apply(("forget", second))
                self.assertIsNone(care.wanted_command(store.names))

    def test_the_number_of_an_open_ticket(self):
        """One behind the last number is open for a call that comes; the last one, or less, is left over."""
        store = Store()
        ticket = store.open(3)
        care = self.ticked(store.names, 23)
        self.assertIsNone(care.wanted_command(store.names))
        store.do(3, ("list", ()))
        self.assertEqual(care.wanted_command(store.names), ("forget", ticket))
        store.do(3, ("list", ()))
        self.assertEqual(care.wanted_command(store.names), ("forget", ticket))

    def test_open_at_forty_ticks(self):
        # It is open from some tick on, and asked about at the 47th, the 59th and so on.
        for asked in (47, 59):
            for first in range(asked - 45, asked - 30):
                store = Store()
                care = Care(SMALL)
                for tick in range(1, asked + 1):
                    if tick == first:
                        ticket = store.open()
                    care.tick(store.names)
                expected = ("forget", ticket) if asked - first + 1 >= 40 else None
                self.assertEqual(care.wanted_command(store.names), expected)

    def test_fewer_than_forty_ticks(self):
        store = Store()
        store.open()
        self.assertIsNone(self.ticked(store.names, 35).wanted_command(store.names))
        ticket = store.names.intended()[0][0]
        self.assertEqual(self.ticked(store.names, 47).wanted_command(store.names), ("forget", ticket))

    def test_open_no_longer(self):
        """A ticket that was open for long is committed before the care is asked."""
        store = Store()
        store.do(1, ("create", ("a",)))
        ticket = store.open()
        care = self.ticked(store.names, 47)
        self.assertEqual(care.wanted_command(store.names), ("forget", ticket))
        store.apply(("commit", ticket, 1, 2, ("a",), 0, 3))
        self.assertIsNone(care.wanted_command(store.names))

    def test_the_machine_is_not_changed(self):
        store = Store()
        store.idle()
        store.open()
        store.dead()
        store.wanted(3)
        before = store.names.dump()
        care = Care(SMALL)
        for _ in range(60):
            care.tick(store.names)
            care.wanted_command(store.names)
            for shelf in ALL:
                care.letter(shelf, ("have", ()))
        self.assertEqual(store.names.dump(), before)


class ResultsTest(unittest.TestCase):

    def test_effects_are_new(self):
        store = Store()
        store.wanted(3)
        one, other = Care(SMALL), Care(SMALL)
        for _ in range(40):
            found = one.tick(store.names)
            self.assertEqual(found, other.tick(store.names))
            found[:] = [("send", "s0", ("drop", 1))]
            found = one.letter("s1", ("have", ()))
            self.assertEqual(found, other.letter("s1", ("have", ())))
            found.append(1)


if __name__ == "__main__":
    unittest.main()
