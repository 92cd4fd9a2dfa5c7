"""Part 9: the inspector (9.2 to 9.15, 9.18)."""

import copy
import itertools
import unittest

from blobtools import octets_of_size, shelf_of, word_of
from cairn.audit import Audit
from cairn.config import Config
from cairn.errors import BlobLost, CairnError, NoFile, TooFewDisks
from cairn.index import Index
from keepers import disk_of
from support import replaced

SMALL = Config(3, 4, 2, 1, 64)
WIDE = Config(1, 7, 2, 2, 64)
NOOP = ("noop",)
BALLOT, MORE = (1, 0, 1), (2, 1, 1)
ALL = SMALL.shelf_names()


def close(slot, command):
    return (3, slot, command)


def vote(slot, command, ballot=BALLOT):
    return (2, slot, ballot, command)


def create(client, number, *path):
    return ("do", client, number, ("create", path))


def closed_disks(*commands, config=SMALL):
    """Disks of all keepers, with one closed slot for each command."""
    records = [close(slot, command) for slot, command in enumerate(commands, 1)]
    return {name: disk_of(*records) for name in config.keeper_names()}


def shelf_disk(config, shelf, blobs, changed=None):
    """The disk of a shelf with its fragments of some blobs, a dict from tickets to octets."""
    index = Index(64, {})
    disk = {}
    for ticket, octets in blobs.items():
        number = [k for k in range(config.shelves) if shelf_of(config, ticket, k) == shelf][0]
        fragment = word_of(config, octets)[number]
        number, fragment = (changed or {}).get((shelf, ticket), (number, fragment))
        if fragment:
            disk.update({place: found for _, place, found in index.put(ticket, number, fragment)})
    return disk


def shelf_disks(config, blobs, changed=None):
    return {shelf: shelf_disk(config, shelf, blobs, changed) for shelf in config.shelf_names()}


class DisksTest(unittest.TestCase):

    def test_the_example(self):
        # 9.18.
        voted = disk_of(vote(1, NOOP))
        disks = {"k0": voted, "k1": voted, "k2": disk_of((1, 1, MORE))}
        audit = Audit(SMALL, disks, {})
        self.assertEqual(audit.log(), [NOOP])
        self.assertIs(audit.certain(1), True)
        audit = Audit(SMALL, {"k1": voted, "k2": disks["k2"]}, {})
        self.assertEqual(audit.log(), [NOOP])
        self.assertIs(audit.certain(1), False)
        with self.assertRaises(TooFewDisks):
            Audit(SMALL, {"k2": disks["k2"]}, {})

    def test_fewer_than_a_majority(self):
        for count in (1, 3, 5, 7):
            config = Config(count, 4, 2, 1, 64)
            for present in range(count + 1):
                disks = {name: {} for name in config.keeper_names()[count - present:]}
                if present <= count // 2:
                    with self.assertRaises(TooFewDisks):
                        Audit(config, disks, {})
                else:
                    self.assertEqual(Audit(config, disks, {}).log(), [])

    def test_hurt_disks(self):
        good = disk_of(close(1, NOOP))
        for cell in range(32):
            hurt = {**good, 0: replaced(good[0], cell)}
            self.assertEqual(Audit(SMALL, {"k0": good, "k1": {}, "k2": hurt}, {}).log(), [NOOP])
            with self.assertRaises(TooFewDisks):
                Audit(SMALL, {"k0": good, "k2": hurt}, {})
        # What a hurt disk says counts for nothing.
        hurt = {**good, 9: replaced((0,) * 32, 3)}
        audit = Audit(SMALL, {"k0": {}, "k1": {}, "k2": hurt}, {})
        self.assertEqual((audit.log(), audit.certain(1)), ([], False))

    def test_rot_beyond_the_disk(self):
        """The diary has the places 0 to sectors - 1."""
        disk = {**disk_of(close(1, NOOP)), 64: (1,) * 32}
        self.assertEqual(Audit(SMALL, {"k0": disk, "k1": disk}, {}).log(), [NOOP])

    def test_torn_sectors_are_readable(self):
        disk = disk_of(close(1, NOOP), vote(2, create(1, 1, "a")))
        last = max(disk)
        disk[last] = disk[last][:16] + (0,) * 16
        self.assertEqual(Audit(SMALL, {"k0": disk, "k1": {}}, {}).log(), [NOOP])

    def test_other_names(self):
        disk = disk_of(close(1, NOOP))
        others = {"k3": disk, "k": disk, "s0": disk, "p0": disk, "K0": disk}
        with self.assertRaises(TooFewDisks):
            Audit(SMALL, {"k0": disk, **others}, {})
        audit = Audit(SMALL, {"k0": {}, "k1": {}, **others}, {"s4": {}, "k0": disk})
        self.assertEqual(audit.log(), [])

    def test_the_dicts_are_not_kept(self):
        blobs = {2: (5, 6, 7)}
        keepers = closed_disks(create(1, 1, "a"), ("intend", 1, 2), ("commit", 2, 1, 2, ("a",), 0, 3))
        shelves = shelf_disks(SMALL, blobs)
        kept = copy.deepcopy((keepers, shelves))
        audit = Audit(SMALL, keepers, shelves)
        expected = (audit.log(), audit.report(), audit.files())
        self.assertEqual((keepers, shelves), kept)
        for disks in (keepers, shelves):
            for disk in disks.values():
                disk.clear()
            disks.clear()
        self.assertEqual((audit.log(), audit.report(), audit.files()), expected)
        self.assertEqual(audit.octets(("a",)), [5, 6, 7])

    def test_results_are_new(self):
        audit = Audit(SMALL, closed_disks(create(1, 1, "a")), {})
        for call in (audit.log, audit.report, audit.files):
            expected = list(call())
            call().append(1)
            self.assertEqual(call(), expected)
        machine = audit.names()
        machine.apply(2, create(1, 2, "b"))
        self.assertIsNone(audit.names().extents(("b",)))
        audit.octets(("a",)).append(3)
        self.assertEqual(audit.octets(("a",)), [])


class LogTest(unittest.TestCase):

    A, B, C = create(1, 1, "a"), create(1, 1, "b"), create(1, 1, "c")

    def audit(self, *lists, config=SMALL):
        """The audit of disks with these records."""
        return Audit(config, {f"k{number}": disk_of(*records) for number, records in enumerate(lists)}, {})

    def test_closed_slots_before_votes(self):
        for order in itertools.permutations(([close(1, self.A)], [vote(1, self.B, (9, 1, 9))], [])):
            audit = self.audit(*order)
            self.assertEqual((audit.log(), audit.certain(1)), ([self.A], True))

    def test_the_leading_vote(self):
        for order in itertools.permutations(([vote(1, self.A, (2, 0, 1))], [vote(1, self.B, (1, 1, 9))], [])):
            audit = self.audit(*order)
            self.assertEqual((audit.log(), audit.certain(1)), ([self.A], False))
        # Ballots are compared as tuples.
        audit = self.audit([vote(1, self.A, (2, 1, 3))], [vote(1, self.B, (2, 1, 10))])
        self.assertEqual(audit.log(), [self.B])
        audit = self.audit([vote(1, self.A, (10, 0, 1))], [vote(1, self.B, (9, 1, 1))])
        self.assertEqual(audit.log(), [self.A])

    def test_promises_say_nothing(self):
        audit = self.audit([(1, 1, MORE)], [(1, 1, MORE)], [vote(1, self.A), (1, 1, MORE)])
        self.assertEqual((audit.log(), audit.certain(1)), ([self.A], False))
        audit = self.audit([(1, 1, MORE)], [(1, 1, MORE)], [(1, 1, MORE)])
        self.assertEqual((audit.log(), audit.certain(1)), ([], False))

    def test_an_older_vote_counts_for_a_majority(self):
        """Each record counts, also one that is not the last vote of its keeper."""
        audit = self.audit([vote(1, self.A), vote(1, self.A, MORE)], [vote(1, self.A)], [])
        self.assertEqual((audit.log(), audit.certain(1)), ([self.A], True))

    def test_certain_with_and_without_a_majority(self):
        five = Config(5, 4, 2, 1, 64)
        for voters in range(1, 6):
            lists = [[vote(1, self.A)] if number < voters else [] for number in range(5)]
            self.assertIs(self.audit(*lists, config=five).certain(1), voters >= 3)
            # Of all keepers, not of those whose disks are here.
            self.assertIs(self.audit(*lists[:3], config=five).certain(1), voters >= 3)
        other = (3, 1, 1)
        lists = [[vote(1, self.A)], [vote(1, self.A)], [vote(1, self.A, other)], [vote(1, self.A, other)], []]
        self.assertIs(self.audit(*lists, config=five).certain(1), False)

    def test_a_vote_twice_on_one_disk(self):
        """A keeper that has restated its votes has one still."""
        audit = self.audit([vote(1, self.A), (0,), vote(1, self.A)], [])
        self.assertIs(audit.certain(1), False)
        audit = self.audit([vote(1, self.A), (0,), vote(1, self.A)], [vote(1, self.A)])
        self.assertIs(audit.certain(1), True)

    def test_slots_of_which_nothing_is_known(self):
        audit = self.audit([close(1, self.A), close(3, self.B)], [])
        self.assertEqual([audit.certain(slot) for slot in (1, 2, 3, 4, 60000)], [True, False, True, False, False])
        audit = self.audit([vote(1, self.A)], config=Config(1, 4, 2, 1, 64))
        self.assertEqual([audit.certain(slot) for slot in (1, 2)], [True, False])

    def test_gaps(self):
        self.assertEqual(self.audit([close(2, self.A)], [close(3, self.B)]).log(), [])
        lists = [[close(1, self.A), close(4, self.C)], [vote(2, self.B)], [(1, 3, MORE)]]
        self.assertEqual(self.audit(*lists).log(), [self.A, self.B])
        lists[2].append(vote(3, NOOP))
        self.assertEqual(self.audit(*lists).log(), [self.A, self.B, NOOP, self.C])

    def test_names(self):
        values = ((), ("hello",), ("do", 5, 1, ("create", ("x",))), ("intend", 1, 0), ("do", 1, 1, ("create", ("X",))))
        audit = self.audit([close(slot, value) for slot, value in enumerate(values, 1)], [vote(6, self.A)])
        self.assertEqual(audit.log(), [*values, self.A])
        names = audit.names()
        self.assertEqual([node[:3] for node in names.dump()[0]], [((), "dir", 0), (("a",), "file", 6)])
        self.assertEqual(names.answer_of(1, 1), (6, "ok", ()))

    def test_long_commands(self):
        command = ("commit", 1, 4, 60000, ("abcdefgh",) * 4, 255, 64)
        deep = (1, (2, (3, (4, (5, (6, (7, (8,))))))))
        audit = self.audit([close(1, command), vote(2, deep)], [])
        self.assertEqual(audit.log(), [command, deep])


class BlobTest(unittest.TestCase):

    OCTETS = octets_of_size(11)

    def audit(self, config, disks):
        return Audit(config, {name: {} for name in config.keeper_names()}, disks)

    def changed(self, config, ticket, numbers, change):
        """The changes that make the fragments with these indexes wrong."""
        word = word_of(config, self.OCTETS)
        return {(shelf_of(config, ticket, number), ticket): (number, change(word[number])) for number in numbers}

    def check(self, config, disks, expected, ticket=9):
        audit = self.audit(config, disks)
        self.assertEqual(audit.blob(ticket, 11), expected)
        if expected[0] == "lost":
            with self.assertRaises(BlobLost):
                audit.blob_octets(ticket, 11)
        else:
            found = audit.blob_octets(ticket, 11)
            self.assertEqual(found, list(self.OCTETS))
            self.assertIsInstance(found, list)

    def test_whole_and_thin_and_lost(self):
        for config in (SMALL, WIDE, Config(1, 3, 3, 0, 64), Config(1, 5, 1, 2, 64)):
            disks = shelf_disks(config, {9: self.OCTETS})
            for count in range(config.shelves + 1):
                for lost in itertools.combinations(range(config.shelves), count):
                    left = {shelf: disks[shelf] for shelf in disks}
                    for number in lost:
                        # The disk is missing, or empty.
                        if number % 2:
                            del left[shelf_of(config, 9, number)]
                        else:
                            left[shelf_of(config, 9, number)] = {}
                    good = tuple(number for number in range(config.shelves) if number not in lost)
                    if len(good) < config.data:
                        expected = ("lost", (), ())
                    else:
                        expected = ("thin" if lost else "whole", good, ())
                    self.check(config, left, expected)

    def test_wrong_pieces(self):
        """With seven pieces of a blob of two blocks, two wrong ones are found, three are not."""
        for wrong in itertools.combinations(range(7), 2):
            changed = self.changed(WIDE, 9, wrong, lambda octets: replaced(octets, 2))
            disks = shelf_disks(WIDE, {9: self.OCTETS}, changed)
            good = tuple(number for number in range(7) if number not in wrong)
            self.check(WIDE, disks, ("thin", good, wrong))
        changed = self.changed(WIDE, 9, (0, 3, 5), lambda octets: replaced(octets, 2, octets[1] + 3))
        self.check(WIDE, shelf_disks(WIDE, {9: self.OCTETS}, changed), ("lost", (), ()))

    def test_wrong_at_different_places(self):
        """At each place no more than two pieces are wrong."""
        changed = {}
        for number in range(5):
            changed.update(self.changed(WIDE, 9, [number], lambda octets: replaced(octets, number)))
        self.check(WIDE, shelf_disks(WIDE, {9: self.OCTETS}, changed), ("thin", (5, 6), (0, 1, 2, 3, 4)))

    def test_one_wrong_among_few(self):
        disks = shelf_disks(SMALL, {9: self.OCTETS}, self.changed(SMALL, 9, [1], lambda octets: replaced(octets, 0)))
        self.check(SMALL, disks, ("thin", (0, 2, 3), (1,)))
        del disks[shelf_of(SMALL, 9, 3)]
        self.check(SMALL, disks, ("lost", (), ()))
        # Of exactly as many pieces as are needed, none can be called wrong.
        del disks[shelf_of(SMALL, 9, 2)]
        audit = self.audit(SMALL, disks)
        self.assertEqual(audit.blob(9, 11), ("thin", (0, 1), ()))
        self.assertNotEqual(audit.blob_octets(9, 11), list(self.OCTETS))

    def test_fragments_that_are_no_pieces(self):
        word = word_of(SMALL, self.OCTETS)
        shelf = shelf_of(SMALL, 9, 1)
        for held in ((2, word[1]), (2, word[2]), (5, word[1]), (255, word[1]), (1, word[1][:-1]), (1, word[1] + (0,))):
            disks = shelf_disks(SMALL, {9: self.OCTETS}, {(shelf, 9): held})
            self.check(SMALL, disks, ("thin", (0, 2, 3), ()))
        # A fragment on another shelf than its own.
        disks = shelf_disks(SMALL, {9: self.OCTETS})
        disks[shelf_of(SMALL, 9, 0)] = disks[shelf]
        self.check(SMALL, disks, ("thin", (1, 2, 3), ()))

    def test_the_size_demands_a_length(self):
        audit = self.audit(SMALL, shelf_disks(SMALL, {9: self.OCTETS}))
        for size in range(1, 65):
            expected = ("whole", (0, 1, 2, 3), ()) if size in (11, 12) else ("lost", (), ())
            self.assertEqual(audit.blob(9, size), expected)
        self.assertEqual(audit.blob_octets(9, 12), [*self.OCTETS, 0])

    def test_other_tickets(self):
        audit = self.audit(SMALL, shelf_disks(SMALL, {9: self.OCTETS}))
        for ticket in (1, 8, 10, 13):
            self.assertEqual(audit.blob(ticket, 11), ("lost", (), ()))

    def test_rot(self):
        """A fragment with a rotten sector is not held; the others are."""
        disks = shelf_disks(SMALL, {9: self.OCTETS, 10: octets_of_size(3)})
        for shelf in ALL:
            number = [k for k in range(4) if shelf_of(SMALL, 9, k) == shelf][0]
            rotten = {**disks[shelf], 0: replaced(disks[shelf][0], 20)}
            good = tuple(k for k in range(4) if k != number)
            audit = self.audit(SMALL, {**disks, shelf: rotten})
            self.assertEqual(audit.blob(9, 11), ("thin", good, ()))
            self.assertEqual(audit.blob(10, 3)[0], "whole")

    def test_more_than_ten_shelves(self):
        config = Config(1, 12, 2, 2, 64)
        self.check(config, shelf_disks(config, {9: self.OCTETS}), ("whole", tuple(range(12)), ()))


class ReportTest(unittest.TestCase):

    BLOBS = {2: (5, 6, 7), 5: tuple(range(20)), 8: (1,)}
    LOG = (
        create(1, 1, "a"), ("intend", 1, 2), ("commit", 2, 1, 2, ("a",), 0, 3),
        create(2, 1, "b"), ("intend", 2, 2), ("commit", 5, 2, 2, ("b",), 4, 20),
        create(3, 1, "c"), ("intend", 3, 2), ("commit", 8, 3, 2, ("c",), 0, 1),
        create(4, 1, "z"), ("do", 4, 2, ("make", ("d",))), ("do", 4, 3, ("rename", ("c",), ("d", "c"))),
    )

    def audit(self, *more, config=SMALL, without=(), changed=None, blobs=None):
        disks = shelf_disks(config, self.BLOBS if blobs is None else blobs, changed)
        for shelf in without:
            del disks[shelf]
        return Audit(config, closed_disks(*self.LOG, *more, config=config), disks)

    def without(self, *tickets):
        """Changes by which some shelves do not have their fragments: a ticket once for each."""
        return {(shelf_of(SMALL, ticket, number), ticket): (0, ()) for number, ticket in enumerate(tickets)}

    def test_whole(self):
        audit = self.audit()
        rows = [(2, 3, "whole", 4, 0), (5, 20, "whole", 4, 0), (8, 1, "whole", 4, 0)]
        self.assertEqual(audit.report(), rows)
        self.assertEqual((audit.margin(), audit.healthy()), (2, True))
        files = [(("a",), 3, "whole"), (("b",), 24, "whole"), (("d", "c"), 1, "whole"), (("z",), 0, "whole")]
        self.assertEqual(audit.files(), files)
        self.assertEqual(audit.octets(("b",)), [0] * 4 + list(range(20)))
        self.assertEqual(audit.octets(("z",)), [])

    def test_thin(self):
        audit = self.audit(without=["s2"])
        rows = [(2, 3, "thin", 3, 0), (5, 20, "thin", 3, 0), (8, 1, "thin", 3, 0)]
        self.assertEqual(audit.report(), rows)
        self.assertEqual((audit.margin(), audit.healthy()), (1, False))
        self.assertEqual([row[2] for row in audit.files()], ["thin", "thin", "thin", "whole"])
        self.assertEqual(audit.octets(("d", "c")), [1])

    def test_lost(self):
        audit = self.audit(changed=self.without(2, 5, 5, 5))
        rows = [(2, 3, "thin", 3, 0), (5, 20, "lost", 0, 0), (8, 1, "whole", 4, 0)]
        self.assertEqual(audit.report(), rows)
        self.assertEqual((audit.margin(), audit.healthy()), (-2, False))
        self.assertEqual([row[2] for row in audit.files()], ["thin", "lost", "whole", "whole"])
        self.assertEqual(audit.octets(("a",)), [5, 6, 7])
        with self.assertRaises(BlobLost):
            audit.octets(("b",))

    def test_wrong_pieces(self):
        config = Config(3, 7, 2, 2, 64)
        word = word_of(config, self.BLOBS[2])
        changed = {(shelf_of(config, 2, number), 2): (number, replaced(word[number], 0)) for number in (1, 4)}
        audit = self.audit(config=config, changed=changed)
        self.assertEqual(audit.report()[0], (2, 3, "thin", 5, 2))
        self.assertEqual((audit.margin(), audit.healthy()), (1, False))
        self.assertEqual(audit.octets(("a",)), [5, 6, 7])

    def test_the_margin_is_kept(self):
        """After as many shelves as the margin, whichever, every wanted blob can be read."""
        config = Config(3, 7, 2, 2, 64)
        word = word_of(config, self.BLOBS[5])
        changed = {(shelf_of(config, 5, 6), 5): (6, replaced(word[6], 1))}
        margin = self.audit(config=config, changed=changed).margin()
        self.assertEqual(margin, 3)
        for lost in itertools.combinations(config.shelf_names(), margin):
            audit = self.audit(config=config, changed=changed, without=lost)
            self.assertEqual(audit.octets(("b",))[4:], list(self.BLOBS[5]))

    def test_without_rows(self):
        for config in (SMALL, WIDE, Config(1, 3, 3, 0, 64)):
            audit = Audit(config, {name: {} for name in config.keeper_names()}, {})
            self.assertEqual((audit.report(), audit.files()), ([], []))
            self.assertEqual((audit.margin(), audit.healthy()), (config.shelves - config.data, True))

    def test_wanted_tickets_alone(self):
        """No row for open, idle and dead ones, but one for a pin."""
        more = (
            ("intend", 4, 4), ("do", 1, 3, ("remove", ("a",))), ("do", 2, 3, ("read", ("b",), 0, 9)),
            ("do", 3, 3, ("remove", ("b",))), ("forget", 2),
        )
        audit = self.audit(*more, without=["s0"])
        self.assertEqual([row[0] for row in audit.report()], [5, 8])
        self.assertEqual([row[0] for row in audit.files()], [("d", "c"), ("z",)])

    def test_a_file_of_several_blobs(self):
        more = (("intend", 1, 3), ("commit", 13, 1, 3, ("a",), 1, 1))
        more += (("intend", 1, 4), ("commit", 15, 1, 4, ("a",), 5, 2))
        blobs = {**self.BLOBS, 13: (9,), 15: (3, 4)}
        audit = self.audit(*more, blobs=blobs)
        self.assertEqual(audit.octets(("a",)), [5, 9, 7, 0, 0, 3, 4])
        kinds = []
        for changed in (self.without(13), self.without(2, 13, 13, 13), self.without(2, 2, 13, 15)):
            audit = self.audit(*more, blobs=blobs, changed=changed)
            kinds.append(audit.files()[0][2])
        self.assertEqual(kinds, ["thin", "lost", "thin"])

    def test_paths_of_no_file(self):
        audit = self.audit()
        for path in ((), ("d",), ("x",), ("a", "b"), ("d", "x"), ("x", "y")):
            with self.assertRaises(NoFile):
                audit.octets(path)

    def test_errors_are_of_the_program(self):
        for error in (TooFewDisks, BlobLost, NoFile):
            self.assertTrue(issubclass(error, CairnError))


if __name__ == "__main__":
    unittest.main()
