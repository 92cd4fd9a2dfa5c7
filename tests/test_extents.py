"""Part 6: contents as lists of extents (6.8, 6.9)."""

import copy
import itertools
import unittest

from cairn.extents import octets_of, part, placed, resized, tickets_of, total
from support import seeded

# A file of 20 octets: 3 of ticket 5, 4 zeros, 6 of ticket 9, 2 of ticket 5, 5 zeros.
FILE = [(5, 2, 3), (0, 0, 4), (9, 0, 6), (5, 7, 2), (0, 0, 5)]


def references(extents):
    """One (ticket, offset) for each octet; all zeros are the same."""
    return [
        (ticket, offset + k if ticket else 0) for ticket, offset, length in extents for k in range(length)
    ]


def canonical(found):
    """The canonical list of the references."""
    extents = []
    for ticket, offset in found:
        last = extents[-1] if extents else (-1, 0, 0)
        if ticket == last[0] and (ticket == 0 or offset == last[1] + last[2]):
            extents[-1] = (ticket, last[1], last[2] + 1)
        else:
            extents.append((ticket, offset, 1))
    return extents


def zeros(count):
    return [(0, 0)] * count


class ExtentsTest(unittest.TestCase):

    def test_this_file_is_canonical(self):
        self.assertEqual(canonical(references(FILE)), FILE)


class TotalTest(unittest.TestCase):

    def test_total(self):
        self.assertEqual(total([]), 0)
        self.assertEqual(total([(7, 3, 1)]), 1)
        self.assertEqual(total([(0, 0, 256)]), 256)
        self.assertEqual(total(FILE), 20)


class PartTest(unittest.TestCase):

    def test_every_range(self):
        for at, count in itertools.product(range(25), range(25)):
            self.assertEqual(part(FILE, at, count), canonical(references(FILE)[at:at + count]))

    def test_ends_and_the_middle(self):
        self.assertEqual(part(FILE, 0, 20), FILE)
        self.assertEqual(part(FILE, 0, 1), [(5, 2, 1)])
        self.assertEqual(part(FILE, 2, 1), [(5, 4, 1)])
        self.assertEqual(part(FILE, 19, 1), [(0, 0, 1)])
        self.assertEqual(part(FILE, 4, 5), [(0, 0, 3), (9, 0, 2)])
        self.assertEqual(part(FILE, 8, 3), [(9, 1, 3)])
        self.assertEqual(part(FILE, 12, 2), [(9, 5, 1), (5, 7, 1)])

    def test_beyond_the_end(self):
        self.assertEqual(part(FILE, 18, 3), [(0, 0, 2)])
        for at in (20, 21, 300, 10 ** 40):
            for count in (0, 1, 10 ** 40):
                self.assertEqual(part(FILE, at, count), [])
        self.assertEqual(part(FILE, 0, 10 ** 40), FILE)
        self.assertEqual(part(FILE, 19, 10 ** 40), [(0, 0, 1)])

    def test_no_octets(self):
        for at in range(22):
            self.assertEqual(part(FILE, at, 0), [])
        for at, count in itertools.product((0, 1, 7), repeat=2):
            self.assertEqual(part([], at, count), [])


class PlacedTest(unittest.TestCase):

    def test_every_range(self):
        for at, size, ticket in itertools.product(range(25), range(1, 12), (5, 9, 7)):
            found = references(FILE) + zeros(at - 20)
            found[at:at + size] = [(ticket, k) for k in range(size)]
            self.assertEqual(placed(FILE, at, size, ticket), canonical(found))

    def test_at_the_beginning(self):
        self.assertEqual(placed(FILE, 0, 2, 7), [(7, 0, 2), (5, 4, 1), *FILE[1:]])
        self.assertEqual(placed(FILE, 0, 3, 7), [(7, 0, 3), *FILE[1:]])

    def test_across_several_extents(self):
        self.assertEqual(placed(FILE, 2, 12, 7), [(5, 2, 2), (7, 0, 12), (5, 8, 1), (0, 0, 5)])
        self.assertEqual(placed(FILE, 0, 20, 7), [(7, 0, 20)])
        self.assertEqual(placed(FILE, 0, 30, 7), [(7, 0, 30)])

    def test_behind_the_end(self):
        file = [(5, 0, 3)]
        self.assertEqual(placed(file, 3, 2, 7), [(5, 0, 3), (7, 0, 2)])
        self.assertEqual(placed(file, 5, 2, 7), [(5, 0, 3), (0, 0, 2), (7, 0, 2)])
        # The zeros of the gap join those at the end.
        self.assertEqual(placed(FILE, 22, 1, 7), [*FILE[:4], (0, 0, 7), (7, 0, 1)])

    def test_an_empty_file(self):
        self.assertEqual(placed([], 0, 4, 7), [(7, 0, 4)])
        self.assertEqual(placed([], 2, 3, 2), [(0, 0, 2), (2, 0, 3)])

    def test_neighbours_that_become_one(self):
        # The part behind the piece goes on in the same blob.
        self.assertEqual(placed([(7, 0, 5)], 0, 3, 7), [(7, 0, 5)])
        self.assertEqual(placed([(9, 0, 2), (7, 2, 4)], 0, 2, 7), [(7, 0, 6)])
        # One that does not go on there stays.
        self.assertEqual(placed([(9, 0, 2), (7, 3, 4)], 0, 2, 7), [(7, 0, 2), (7, 3, 4)])
        self.assertEqual(placed([(7, 0, 6)], 2, 2, 7), [(7, 0, 2), (7, 0, 2), (7, 4, 2)])

    def test_zeros_on_both_sides(self):
        self.assertEqual(placed([(0, 0, 5)], 2, 1, 7), [(0, 0, 2), (7, 0, 1), (0, 0, 2)])


class ResizedTest(unittest.TestCase):

    def test_every_size(self):
        for size in range(45):
            self.assertEqual(resized(FILE, size), canonical((references(FILE) + zeros(25))[:size]))

    def test_smaller_equal_and_greater(self):
        file = [(5, 3, 4), (9, 0, 2)]
        self.assertEqual(resized(file, 0), [])
        self.assertEqual(resized(file, 3), [(5, 3, 3)])
        self.assertEqual(resized(file, 4), [(5, 3, 4)])
        self.assertEqual(resized(file, 6), file)
        self.assertEqual(resized(file, 7), [*file, (0, 0, 1)])
        self.assertEqual(resized(file, 256), [*file, (0, 0, 250)])

    def test_zeros_at_the_end_become_one(self):
        self.assertEqual(resized([(5, 0, 1), (0, 0, 2)], 6), [(5, 0, 1), (0, 0, 5)])

    def test_an_empty_file(self):
        self.assertEqual(resized([], 0), [])
        self.assertEqual(resized([], 3), [(0, 0, 3)])


class OctetsTest(unittest.TestCase):

    BLOBS = {5: list(range(50, 60)), 9: list(range(90, 96)), 1: [1]}

    def test_octets(self):
        expected = [52, 53, 54, 0, 0, 0, 0, 90, 91, 92, 93, 94, 95, 57, 58, 0, 0, 0, 0, 0]
        self.assertEqual(octets_of(FILE, self.BLOBS), expected)
        self.assertEqual(octets_of([], self.BLOBS), [])
        self.assertEqual(octets_of([], {}), [])
        self.assertEqual(octets_of([(0, 0, 3)], {}), [0, 0, 0])
        self.assertEqual(octets_of([(5, 9, 1), (5, 0, 1)], self.BLOBS), [59, 50])

    def test_ranges(self):
        whole = octets_of(FILE, self.BLOBS)
        for at, count in itertools.product(range(22), repeat=2):
            self.assertEqual(octets_of(part(FILE, at, count), self.BLOBS), whole[at:at + count])


class TicketsTest(unittest.TestCase):

    def test_tickets(self):
        self.assertEqual(tickets_of(FILE), [5, 9])
        self.assertEqual(tickets_of([]), [])
        self.assertEqual(tickets_of([(0, 0, 3)]), [])
        self.assertEqual(tickets_of([(300, 0, 1), (2, 0, 1), (300, 5, 1), (10, 0, 1)]), [2, 10, 300])


class ListsTest(unittest.TestCase):

    def test_arguments_stay_and_results_are_new(self):
        blobs = {5: list(range(10)), 9: list(range(6)), 7: [1]}
        for call, *arguments in (
            (part, FILE, 0, 20), (part, FILE, 4, 5), (part, [], 0, 1), (placed, FILE, 20, 1, 7), (placed, FILE, 3, 2, 7),
            (placed, [], 0, 1, 7), (resized, FILE, 20), (resized, FILE, 3), (resized, FILE, 30), (resized, [], 0),
            (octets_of, FILE, blobs), (octets_of, [(7, 0, 1)], blobs), (tickets_of, FILE), (tickets_of, []),
        ):
            kept = copy.deepcopy(arguments)
            found = call(*arguments)
            self.assertIsInstance(found, list)
            self.assertEqual(arguments, kept)
            expected = list(found)
            found[:] = [(1, 2, 3), *found[1:], (4, 5, 6)]
            self.assertEqual(arguments, kept)
            self.assertEqual(call(*arguments), expected)


class OctetByOctetTest(unittest.TestCase):

    def test_many_operations(self):
        rng = seeded(1)
        for _ in range(60):
            extents, found, ticket = [], [], 0
            for _ in range(60):
                at, count = rng.randrange(40), rng.randrange(1, 20)
                choice = rng.randrange(4)
                if choice == 0:
                    found = (found + zeros(count + 20))[:count + at]
                    extents = resized(extents, count + at)
                elif choice == 1:
                    # A file of a part of itself.
                    found = found[at // 4:at // 4 + 30]
                    extents = part(extents, at // 4, 30)
                else:
                    ticket = rng.choice([ticket + 1, rng.randrange(1, 4)])
                    found = found + zeros(at - len(found))
                    found[at:at + count] = [(ticket, k) for k in range(count)]
                    extents = placed(extents, at, count, ticket)
                found = found + zeros(total(extents) - len(found))
                self.assertEqual(references(extents), found)
                self.assertEqual(extents, canonical(found))
                self.assertEqual(total(extents), len(found))
                self.assertEqual(tickets_of(extents), sorted({ticket for ticket, _ in found if ticket}))
                self.assertEqual(references(part(extents, at, count)), found[at:at + count])
                self.assertEqual(part(extents, at, count), canonical(found[at:at + count]))


if __name__ == "__main__":
    unittest.main()
