"""Part 8: surveys, plans and repairs (8.3 to 8.6, 8.12, 8.13)."""

import copy
import itertools
import unittest

from blobtools import CONFIGS, SMALL, octets_of_size, pieces_of, shelf_of, word_of
from cairn.config import Config
from cairn.errors import BadRepair
from cairn.rounds import Repair, Survey, plan, whole
from cairn.writer import Writer

ALL = ("s0", "s1", "s2", "s3")
FIVE = (5, 6, 7)


def lists(*shelves):
    return [(shelf, ("list",)) for shelf in shelves]


def gets(ticket, *shelves):
    return [(shelf, ("get", ticket)) for shelf in shelves]


class SurveyTest(unittest.TestCase):

    def test_at_first(self):
        survey = Survey(SMALL)
        self.assertEqual(survey.letters(), lists(*ALL))
        self.assertEqual(survey.complete(), ())
        for shelf in ALL + ("s4", "k0", ""):
            self.assertEqual(survey.listed(shelf), ())

    def test_each_answer(self):
        survey = Survey(SMALL)
        here = []
        for shelf, tickets in (("s2", (5, 8)), ("s0", ()), ("s3", (1, 2, 3)), ("s1", (9,))):
            self.assertIsNone(survey.have(shelf, tickets))
            here.append(shelf)
            self.assertEqual(survey.complete(), tuple(sorted(here)))
            self.assertEqual(survey.letters(), lists(*[other for other in ALL if other not in here]))
            self.assertEqual(survey.listed(shelf), tickets)
        self.assertEqual(survey.letters(), [])
        self.assertEqual([survey.listed(shelf) for shelf in ALL], [(), (9,), (5, 8), (1, 2, 3)])

    def test_the_first_answer_stands(self):
        survey = Survey(SMALL)
        survey.have("s1", ())
        survey.have("s1", (5, 8))
        self.assertEqual(survey.listed("s1"), ())
        survey.have("s2", (5, 8))
        survey.have("s2", (5, 8))
        survey.have("s2", ())
        self.assertEqual(survey.listed("s2"), (5, 8))
        self.assertEqual(survey.complete(), ("s1", "s2"))

    def test_strangers(self):
        survey = Survey(SMALL)
        for sender in ("s4", "s", "", "k1", "p0", "S1", "s01"):
            survey.have(sender, (5,))
            self.assertEqual(survey.complete(), ())
            self.assertEqual(survey.letters(), lists(*ALL))
            self.assertEqual(survey.listed(sender), ())

    def test_more_than_ten_shelves(self):
        config = Config(1, 12, 2, 1, 64)
        survey = Survey(config)
        self.assertEqual(survey.letters(), lists(*config.shelf_names()))
        for shelf in ("s10", "s2", "s11", "s1"):
            survey.have(shelf, ())
        self.assertEqual(survey.complete(), ("s1", "s2", "s10", "s11"))

    def test_arguments_and_results(self):
        survey = Survey(SMALL)
        tickets = [5, 8]
        survey.have("s1", tickets)
        tickets.append(9)
        survey.letters().clear()
        self.assertEqual(survey.letters(), lists("s0", "s2", "s3"))
        self.assertEqual(survey.listed("s1"), (5, 8))
        self.assertIsInstance(survey.complete(), tuple)


class PlanTest(unittest.TestCase):

    def test_the_example(self):
        listings = {"s0": [5, 6, 8], "s1": [], "s2": [5, 8], "s3": [5, 8]}
        found = plan(SMALL, {5: 3, 8: 1}, [6], listings)
        self.assertEqual(found, ([(5, ("s1",)), (8, ("s1",))], [("s0", 6)]))

    def test_nothing(self):
        self.assertEqual(plan(SMALL, {}, [], {}), ([], []))
        self.assertEqual(plan(SMALL, {5: 3}, [6], {}), ([], []))
        self.assertEqual(plan(SMALL, {5: 3}, [6], {shelf: [5] for shelf in ALL}), ([], []))
        self.assertEqual(plan(SMALL, {}, [], {shelf: [5, 6] for shelf in ALL}), ([], []))

    def test_orders(self):
        config = Config(1, 12, 2, 1, 64)
        names = config.shelf_names()
        listings = {shelf: [300, 7, 20] for shelf in reversed(names)}
        found = plan(config, {90: 1, 8: 2, 300: 4, 9: 3}, [20, 6, 7], listings)
        self.assertEqual(found[0], [(8, names), (9, names), (90, names)])
        self.assertEqual(found[1], [(shelf, ticket) for shelf in names for ticket in (7, 20)])

    def test_listings_without_some_shelves(self):
        found = plan(SMALL, {5: 3}, [6], {"s3": [6], "s1": [6, 5]})
        self.assertEqual(found, ([(5, ("s3",))], [("s1", 6), ("s3", 6)]))

    def test_tickets_that_nobody_wants(self):
        # 9 is open, or idle, or not known: nothing happens to it.
        listings = {"s0": [5, 9], "s1": [9], "s2": [5], "s3": [5, 6, 9]}
        self.assertEqual(plan(SMALL, {5: 3}, [6], listings), ([(5, ("s1",))], [("s3", 6)]))

    def test_other_keys(self):
        found = plan(SMALL, {5: 3}, [6], {"s9": [6], "k0": [6], "s0": [5], "s1": [6, 5]})
        self.assertEqual(found, ([], [("s1", 6)]))

    def test_listings_as_tuples(self):
        self.assertEqual(plan(SMALL, {5: 3}, [6], {"s0": (6,), "s1": (5,)}), ([(5, ("s0",))], [("s0", 6)]))

    def test_against_the_words(self):
        states = list(itertools.product(((), (5,), (6,), (5, 6)), repeat=3))
        for some in states:
            listings = dict(zip(("s2", "s0", "s1"), [list(tickets) for tickets in some]))
            repairs, drops = plan(SMALL, {5: 1}, [6], listings)
            without = tuple(shelf for shelf in ("s0", "s1", "s2") if 5 not in listings[shelf])
            self.assertEqual(repairs, [(5, without)] if without else [])
            self.assertEqual(drops, [(shelf, 6) for shelf in ("s0", "s1", "s2") if 6 in listings[shelf]])

    def test_arguments_and_results(self):
        arguments = ({5: 3, 8: 1}, [7, 6], {"s0": [5, 6, 8], "s1": []})
        kept = copy.deepcopy(arguments)
        found = plan(SMALL, *arguments)
        expected = copy.deepcopy(found)
        self.assertEqual(arguments, kept)
        self.assertIsInstance(found, tuple)
        for part in found:
            self.assertIsInstance(part, list)
            part.clear()
        self.assertEqual(plan(SMALL, *arguments), expected)
        self.assertEqual(arguments, kept)


class WholeTest(unittest.TestCase):

    def test_whole(self):
        full = {shelf: [5, 8, 9] for shelf in ALL}
        self.assertIs(whole(SMALL, {5: 3, 8: 1}, full), True)
        self.assertIs(whole(SMALL, {}, full), True)
        self.assertIs(whole(SMALL, {}, {shelf: [] for shelf in ALL}), True)
        self.assertIs(whole(SMALL, {5: 3, 7: 1}, full), False)
        for shelf in ALL:
            self.assertIs(whole(SMALL, {5: 3, 8: 1}, {**full, shelf: [5]}), False)
            self.assertIs(whole(SMALL, {5: 3, 8: 1}, {**full, shelf: (8, 5)}), True)
            without = {other: full[other] for other in ALL if other != shelf}
            self.assertIs(whole(SMALL, {5: 3}, without), False)
            self.assertIs(whole(SMALL, {}, {**without, "s7": [5]}), False)
        self.assertIs(whole(SMALL, {}, {}), False)

    def test_arguments(self):
        wanted, listings = {5: 3}, {shelf: [5] for shelf in ALL}
        whole(SMALL, wanted, listings)
        self.assertEqual((wanted, listings), ({5: 3}, {shelf: [5] for shelf in ALL}))


def put(config, ticket, octets, index):
    return (shelf_of(config, ticket, index), ("put", ticket, index, word_of(config, octets)[index]))


class RepairTest(unittest.TestCase):

    def repair(self, *targets, size=3, config=SMALL, ticket=5):
        return Repair(config, ticket, size, targets)

    def unchanged(self, repair, call, *arguments):
        before = (repair.letters(), repair.done())
        with self.subTest(call=call, arguments=arguments):
            self.assertIsNone(getattr(repair, call)(*arguments))
            self.assertEqual((repair.letters(), repair.done()), before)

    def test_the_example(self):
        # 8.13.
        repair = self.repair("s1")
        self.assertEqual(repair.letters(), gets(5, "s0", "s2", "s3"))
        repair.piece("s2", 5, 1, (7, 0))
        self.assertEqual(repair.letters(), gets(5, "s0", "s3"))
        repair.piece("s3", 5, 2, word_of(SMALL, FIVE)[2])
        self.assertEqual(repair.letters(), [("s1", ("put", 5, 0, (5, 6)))])
        self.assertIs(repair.done(), False)
        repair.kept("s1", 5, 0)
        self.assertEqual(repair.letters(), [])
        self.assertIs(repair.done(), True)

    def test_the_number_of_targets(self):
        for config in CONFIGS:
            most = config.shelves - config.data
            for count in range(config.shelves + 1):
                targets = config.shelf_names()[:count]
                for shelves in (targets, list(targets)):
                    if count > most:
                        with self.assertRaises(BadRepair):
                            Repair(config, 5, 3, shelves)
                    else:
                        repair = Repair(config, 5, 3, shelves)
                        self.assertEqual((repair.ticket, repair.targets), (5, targets))
                        self.assertEqual(repair.letters(), gets(5, *config.shelf_names()[count:]))

    def test_without_targets(self):
        repair = self.repair()
        self.assertEqual(repair.targets, ())
        self.assertIs(repair.done(), True)
        self.assertEqual(repair.letters(), gets(5, *ALL))
        for piece in pieces_of(SMALL, 5, FIVE):
            repair.piece(*piece)
        self.assertEqual(repair.letters(), [])

    def test_pieces_that_do_not_count(self):
        repair = self.repair("s1")
        word = word_of(SMALL, FIVE)
        repair.piece("s2", 5, 1, word[1])
        # A piece of a target, of another ticket, and with an index that is here.
        self.unchanged(repair, "piece", "s1", 5, 0, word[0])
        self.unchanged(repair, "piece", "s3", 6, 1, word[2])
        self.unchanged(repair, "piece", "s3", 9, 2, word[2])
        self.unchanged(repair, "piece", "s2", 5, 1, word[1])
        self.unchanged(repair, "piece", "s2", 5, 1, (9, 9))
        # Indexes of no fragment, for which the numbers would fit.
        self.unchanged(repair, "piece", "s3", 5, 6, word[2])
        self.unchanged(repair, "piece", "s3", 5, -2, word[2])
        # Senders that are not the holder.
        for sender in ("s0", "s1", "s2", "s4", "k3", "p0", "", "s33"):
            self.unchanged(repair, "piece", sender, 5, 2, word[2])
        # Other lengths.
        for octets in ((), (1,), (1, 2, 3), (1, 2, 3, 4)):
            self.unchanged(repair, "piece", "s3", 5, 2, octets)
        # An acknowledgement before there are pieces enough.
        self.unchanged(repair, "kept", "s1", 5, 0)
        repair.piece("s3", 5, 2, word[2])
        self.assertEqual(repair.letters(), [put(SMALL, 5, FIVE, 0)])

    def test_the_first_pieces_count(self):
        word = word_of(SMALL, FIVE)
        others = word_of(SMALL, (50, 60, 70))
        for late in ((0, others[0]), (1, others[1])):
            repair = self.repair("s0")
            repair.piece("s2", 5, 1, word[1])
            repair.piece("s3", 5, 2, word[2])
            index, octets = late
            self.unchanged(repair, "piece", shelf_of(SMALL, 5, index), 5, index, octets)
            self.assertEqual(repair.letters(), [put(SMALL, 5, FIVE, 3)])
        # The fragment is that of the blob that the pieces determine, whatever they are.
        repair = self.repair("s0")
        repair.piece("s3", 5, 2, others[2])
        repair.piece("s2", 5, 1, others[1])
        repair.piece("s1", 5, 0, word[0])
        self.assertEqual(repair.letters(), [put(SMALL, 5, (50, 60, 70), 3)])

    def test_acknowledgements(self):
        config = Config(1, 6, 2, 2, 64)
        repair = self.repair("s0", "s3", "s4", config=config)
        indexes = {shelf: index for shelf, _, index, _ in pieces_of(config, 5, FIVE)}
        for index in (0, 2):
            repair.piece(*pieces_of(config, 5, FIVE)[index])
        targets = ["s0", "s3", "s4"]
        expected = [put(config, 5, FIVE, indexes[shelf]) for shelf in targets]
        self.assertEqual(repair.letters(), expected)
        # Others than targets, other tickets, other indexes.
        self.unchanged(repair, "kept", "s1", 5, indexes["s1"])
        self.unchanged(repair, "kept", "s5", 5, indexes["s5"])
        self.unchanged(repair, "kept", "s3", 6, indexes["s3"])
        self.unchanged(repair, "kept", "s3", 11, indexes["s3"])
        self.unchanged(repair, "kept", "s3", 5, indexes["s4"])
        self.unchanged(repair, "kept", "s3", 5, indexes["s3"] + 6)
        self.unchanged(repair, "kept", "s3", 5, indexes["s3"] - 6)
        self.unchanged(repair, "kept", "k3", 5, indexes["s3"])
        for shelf in ("s3", "s0", "s4"):
            self.assertIs(repair.done(), False)
            repair.kept(shelf, 5, indexes[shelf])
            self.unchanged(repair, "kept", shelf, 5, indexes[shelf])
            expected = [pair for pair in expected if pair[0] != shelf]
            self.assertEqual(repair.letters(), expected)
        self.assertIs(repair.done(), True)

    def test_bad_repair_alone_is_raised(self):
        """Whatever pieces come in, of whatever blob."""
        for size in (0, 1, 2, 3, 63, 64, 70):
            length = max(-(-size // 2), 1)
            repair = self.repair("s1", "s2", size=size)
            for octets in ((), (0,) * length, (255,) * length, (1,) * (length + 1)):
                for shelf in ALL:
                    for index in range(-1, 6):
                        repair.piece(shelf, 5, index, octets)
                        repair.kept(shelf, 5, index)
                        repair.letters()
            self.assertIs(repair.done(), True)

    def test_arguments_and_results(self):
        shelves, octets = ["s1", "s2"], [7, 0]
        repair = Repair(SMALL, 9, 3, shelves)
        shelves.append("s3")
        repair.letters().clear()
        self.assertEqual(repair.targets, ("s1", "s2"))
        self.assertEqual(repair.letters(), gets(9, "s0", "s3"))
        word = word_of(SMALL, FIVE)
        first = list(word[2])
        repair.piece("s3", 9, 2, first)
        first[:] = [1, 1]
        repair.piece("s0", 9, 3, list(word[3]))
        expected = [put(SMALL, 9, FIVE, 0), put(SMALL, 9, FIVE, 1)]
        self.assertEqual(repair.letters(), expected)
        repair.letters().clear()
        self.assertEqual(repair.letters(), expected)
        self.assertEqual(octets, [7, 0])
        for _, letter in repair.letters():
            self.assertIsInstance(letter[3], tuple)


class SameFragmentsTest(unittest.TestCase):
    """Point 8.6."""

    def test_a_repair_puts_what_the_writer_put(self):
        for config in CONFIGS:
            for size in (1, 2, 5, 13, 64):
                octets = octets_of_size(size)
                puts = dict(Writer(config, 7, octets).letters())
                pieces = {piece[0]: piece for piece in pieces_of(config, 7, octets)}
                names = config.shelf_names()
                most = config.shelves - config.data
                for targets in (names[:most], names[config.data:], names[:1] if most else ()):
                    repair = Repair(config, 7, size, targets)
                    for shelf, _ in repair.letters()[::-1]:
                        repair.piece(*pieces[shelf])
                    self.assertEqual(repair.letters(), [(shelf, puts[shelf]) for shelf in targets])


if __name__ == "__main__":
    unittest.main()
