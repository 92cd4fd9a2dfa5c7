"""Part 10: histories (10.1 to 10.7)."""

import copy
import itertools
import unittest

from cairn.history import check, find_order, open_calls
from cairn.plain import Plain
from support import seeded

A, B = ("create", ("a",)), ("create", ("b",))
LIST, STAT = ("list", ()), ("stat", ("a",))


def call(client, number, op=LIST):
    return ("call", client, number, op)


def answer(client, number, slot, kind="ok", value=()):
    return ("answer", client, number, (slot, kind, value))


GOOD = [
    call(1, 1, A), call(2, 1, LIST), answer(1, 1, 3), call(1, 2, STAT), answer(2, 1, 2),
    answer(1, 2, 7, "ok", ("file", 0, 3)), call(2, 2, ("remove", ("a",))),
]


class OkTest(unittest.TestCase):

    def test_good(self):
        self.assertEqual(check(GOOD, []), ("ok", [(2, 1), (1, 1), (1, 2)]))
        self.assertEqual(check(GOOD, [(9, 2, 2)]), ("ok", [(2, 1), (1, 1), (1, 2), (2, 2)]))
        self.assertEqual(check([], []), ("ok", []))
        self.assertEqual(check([call(1, 1)], []), ("ok", []))

    def test_an_open_call_whose_effect_is_needed(self):
        history = [call(1, 1, A), call(2, 1, LIST), answer(2, 1, 5, "ok", ("a",))]
        self.assertEqual(check(history, []), ("answer", 2))
        self.assertEqual(check(history, [(4, 1, 1)]), ("ok", [(1, 1), (2, 1)]))
        self.assertEqual(check(history, [(6, 1, 1)]), ("answer", 2))

    def test_slots_of_calls_at_the_same_time(self):
        """Calls that overlap may stand in any order; their slots say in which."""
        for one, other, value in ((1, 2, ()), (2, 1, ("a",))):
            history = [call(1, 1, LIST), call(2, 1, A), answer(2, 1, other), answer(1, 1, one, "ok", value)]
            self.assertEqual(check(history, [])[0], "ok")

    def test_each_error_is_an_answer(self):
        history = [call(1, 1, STAT), answer(1, 1, 1, "missing"), call(1, 2, ("remove", ())), answer(1, 2, 2, "root")]
        self.assertEqual(check(history, []), ("ok", [(1, 1), (1, 2)]))

    def test_arguments_and_results(self):
        history, extra = copy.deepcopy(GOOD), [(9, 2, 2)]
        check(history, extra)[1].append((9, 9))
        open_calls(history).clear()
        self.assertEqual((history, extra), (GOOD, [(9, 2, 2)]))
        self.assertEqual(check(history, extra), ("ok", [(2, 1), (1, 1), (1, 2), (2, 2)]))
        self.assertEqual(len(open_calls(history)), 1)


class FormTest(unittest.TestCase):

    def form(self, index, *entries, extra=()):
        with self.subTest(entries=entries):
            self.assertEqual(check(list(entries), list(extra)), ("form", index))

    def test_numbers_of_calls(self):
        for number in (0, 2, 3, -1):
            self.form(0, call(1, number))
            self.form(2, call(2, 1), answer(2, 1, 1), call(1, number))
        for number in (0, 1, 3):
            self.form(2, call(1, 1), answer(1, 1, 1), call(1, number))

    def test_the_last_call_has_no_answer(self):
        self.form(1, call(1, 1), call(1, 2))
        self.form(3, call(2, 1), call(1, 1), answer(2, 1, 1), call(1, 2))

    def test_answers_of_other_calls(self):
        self.form(0, answer(1, 1, 1))
        self.form(1, call(1, 1), answer(2, 1, 1))
        self.form(1, call(1, 1), answer(1, 2, 1))
        self.form(1, call(1, 1), answer(1, 0, 1))
        self.form(3, call(1, 1), answer(1, 1, 1), call(1, 2), answer(1, 1, 1))

    def test_a_second_answer(self):
        self.form(2, call(1, 1), answer(1, 1, 1), answer(1, 1, 1))
        self.form(3, call(1, 1), answer(1, 1, 1), call(2, 1), answer(1, 1, 2))

    def test_slots(self):
        for slot in (0, -1, True, False, "1", None, (), [1], (1,)):
            self.form(1, call(1, 1), answer(1, 1, slot))

    def test_the_first_entry_that_breaks_a_rule(self):
        self.form(1, call(1, 1), call(1, 3), answer(1, 1, 0), answer(9, 9, 9))
        self.form(1, call(1, 1), answer(1, 1, 0), call(1, 1))

    def test_before_all_other_reasons(self):
        bad = [call(1, 1, A), answer(1, 1, 3, "exists"), call(2, 1), answer(2, 1, 3), call(3, 1), answer(3, 1, 2)]
        self.form(6, *bad, answer(3, 1, 2), extra=[(0, 7, 7)])
        self.assertEqual(check(bad, [(0, 7, 7)])[0], "extra")


class ExtraTest(unittest.TestCase):

    HISTORY = [call(1, 1, A), answer(1, 1, 3), call(2, 1), call(3, 1), call(1, 2)]

    def extra(self, index, *entries):
        with self.subTest(entries=entries):
            self.assertEqual(check(self.HISTORY, list(entries)), ("extra", index))

    def test_calls_that_are_not_open(self):
        for client, number in ((1, 1), (2, 2), (2, 0), (4, 1), (3, 2)):
            self.extra(0, (8, client, number))
            self.extra(1, (9, 2, 1), (8, client, number))

    def test_a_call_twice(self):
        self.extra(1, (8, 2, 1), (9, 2, 1))
        self.extra(2, (8, 2, 1), (9, 3, 1), (10, 2, 1))

    def test_slots(self):
        for slot in (0, -1, True, False, "1", None, (), [1], (1,)):
            self.extra(0, (slot, 2, 1))
            self.extra(1, (7, 3, 1), (slot, 2, 1))
        self.extra(0, (3, 2, 1))
        self.extra(1, (7, 3, 1), (7, 2, 1))

    def test_the_first_entry(self):
        self.extra(0, (0, 2, 1), (3, 3, 1))
        self.extra(1, (4, 2, 1), (4, 3, 1), (0, 1, 2))

    def test_good_ones(self):
        found = check(self.HISTORY, [(9, 1, 2), (4, 3, 1), (7, 2, 1)])
        self.assertEqual(found, ("ok", [(1, 1), (3, 1), (2, 1), (1, 2)]))

    def test_before_the_later_reasons(self):
        history = [call(1, 1, A), answer(1, 1, 3, "exists"), call(2, 1), answer(2, 1, 3), call(3, 1)]
        self.assertEqual(check(history, [(1, 3, 2)]), ("extra", 0))
        self.assertEqual(check(history, [(1, 3, 1)]), ("slot", 3))


class SlotTest(unittest.TestCase):

    def test_the_first_answer_with_a_slot_again(self):
        history = [call(1, 1), call(2, 1), call(3, 1), call(4, 1)]
        history += [answer(1, 1, 5), answer(2, 1, 4), answer(3, 1, 4), answer(4, 1, 5)]
        self.assertEqual(check(history, []), ("slot", 6))
        history[6] = answer(3, 1, 6)
        self.assertEqual(check(history, []), ("slot", 7))
        history[7] = answer(4, 1, 7)
        self.assertEqual(check(history, [])[0], "ok")

    def test_before_the_later_reasons(self):
        # The second call is answered with the slot of the first one, which is too early, too.
        history = [call(1, 1, A), answer(1, 1, 5, "exists"), call(2, 1), answer(2, 1, 5)]
        self.assertEqual(check(history, []), ("slot", 3))


class TimeTest(unittest.TestCase):

    def test_an_answer_before_the_call(self):
        for slot, found in ((3, "time"), (4, "time"), (6, "ok")):
            history = [call(1, 1), answer(1, 1, 5), call(2, 1), answer(2, 1, slot)]
            self.assertEqual(check(history, [])[0], found)
        history = [call(1, 1), answer(1, 1, 5), call(1, 2), answer(1, 2, 4)]
        self.assertEqual(check(history, []), ("time", 2))

    def test_open_calls(self):
        history = [call(1, 1), answer(1, 1, 5), call(2, 1), call(3, 1)]
        self.assertEqual(check(history, [(4, 3, 1), (2, 2, 1)]), ("time", 2))
        self.assertEqual(check(history, [(4, 3, 1)]), ("time", 3))
        self.assertEqual(check(history, [(6, 3, 1)])[0], "ok")
        self.assertEqual(check(history, [])[0], "ok")

    def test_the_first_call(self):
        history = [
            call(1, 1), call(2, 1), answer(1, 1, 2), call(1, 2), answer(2, 1, 9), call(3, 1), call(2, 2),
            answer(3, 1, 8), answer(1, 2, 3), answer(2, 2, 7),
        ]
        self.assertEqual(check(history, []), ("time", 5))
        history[7] = answer(3, 1, 10)
        self.assertEqual(check(history, []), ("time", 6))
        history[9] = answer(2, 2, 11)
        self.assertEqual(check(history, [])[0], "ok")

    def test_before_a_wrong_answer(self):
        history = [call(1, 1), answer(1, 1, 5, "missing"), call(2, 1), answer(2, 1, 4)]
        self.assertEqual(check(history, []), ("time", 2))


class AnswerTest(unittest.TestCase):

    def test_kinds_and_values(self):
        good = [call(1, 1, A), answer(1, 1, 4), call(2, 1, STAT), answer(2, 1, 6, "ok", ("file", 0, 4))]
        self.assertEqual(check(good, [])[0], "ok")
        wrong = (
            answer(2, 1, 6, "missing"), answer(2, 1, 6, "ok", ("file", 1, 4)), answer(2, 1, 6, "ok", ("file", 0, 3)),
            answer(2, 1, 6, "ok", ()), answer(2, 1, 6, "isdir", ("file", 0, 4)),
        )
        for entry in wrong:
            self.assertEqual(check(good[:3] + [entry], []), ("answer", 3))

    def test_the_first_in_the_order_of_the_slots(self):
        history = [call(1, 1, A), call(2, 1), call(3, 1)]
        history += [answer(2, 1, 9, "ok", ()), answer(3, 1, 8, "ok", ()), answer(1, 1, 7)]
        self.assertEqual(check(history, []), ("answer", 4))
        history[4] = answer(3, 1, 8, "ok", ("a",))
        self.assertEqual(check(history, []), ("answer", 3))

    def test_octets(self):
        history = [call(1, 1, A), answer(1, 1, 1), call(1, 2, ("write", ("a",), 2, (7, 8))), answer(1, 2, 4, "ok", 4)]
        history += [call(1, 3, ("read", ("a",), 1, 9)), answer(1, 3, 5, "ok", (0, 7, 8))]
        self.assertEqual(check(history, [])[0], "ok")
        history[5] = answer(1, 3, 5, "ok", ((0, 0, 1), (3, 0, 2)))
        self.assertEqual(check(history, []), ("answer", 5))


class OpenTest(unittest.TestCase):

    def test_open_calls(self):
        self.assertEqual(open_calls([]), [])
        self.assertEqual(open_calls(GOOD), [(2, 2, ("remove", ("a",)))])
        history = [call(4, 1, A), call(1, 1), call(3, 1), answer(1, 1, 1), call(2, 1, B), answer(3, 1, 2), call(3, 2)]
        self.assertEqual(open_calls(history), [(2, 1, B), (3, 2, LIST), (4, 1, A)])


def orders(history):
    """All orders by the words of 10.6."""
    calls = {entry[1:3]: (entry[3], at) for at, entry in enumerate(history) if entry[0] == "call"}
    answers = {entry[1:3]: (entry[3], at) for at, entry in enumerate(history) if entry[0] == "answer"}
    found = []
    for count in range(len(answers), len(calls) + 1):
        for order in itertools.permutations(calls, count):
            if set(answers) <= set(order) and in_time(order, calls, answers) and explained(order, calls, answers):
                found.append(list(order))
    return found


def in_time(order, calls, answers):
    pairs = itertools.combinations(order, 2)
    return not any(other in answers and answers[other][1] < calls[one][1] for one, other in pairs)


def explained(order, calls, answers):
    plain = Plain()
    for client, number in order:
        closed = (client, number) in answers
        slot = answers[client, number][0][0] if closed else 1000000000 + client
        plain.apply(slot, client, number, calls[client, number][0])
        if closed and plain.answer_of(client, number)[1:] != answers[client, number][0][1:]:
            return False
    return True


class FindOrderTest(unittest.TestCase):

    def test_simple_ones(self):
        self.assertEqual(find_order([]), [])
        self.assertEqual(find_order([call(1, 1, A)]), [])
        self.assertEqual(find_order([call(1, 1, A), answer(1, 1, 5)]), [(1, 1)])
        self.assertIsNone(find_order([call(1, 1, A), answer(1, 1, 5, "exists")]))

    def test_an_open_call_that_is_needed(self):
        history = [call(3, 1, A), call(1, 1), answer(1, 1, 2, "ok", ("a",))]
        self.assertEqual(find_order(history), [(3, 1), (1, 1)])

    def test_an_open_call_that_is_not_needed_but_makes_the_order_less(self):
        history = [call(1, 1, B), call(2, 1, A), answer(2, 1, 2), call(3, 1, ("stat", ("a",)))]
        history += [answer(3, 1, 1, "ok", ("file", 0, 2))]
        self.assertEqual(find_order(history), [(1, 1), (2, 1), (3, 1)])

    def test_a_prefix_is_less(self):
        history = [call(1, 1, A), answer(1, 1, 2), call(2, 1, B)]
        self.assertEqual(find_order(history), [(1, 1)])

    def test_slots_need_not_ascend(self):
        history = [call(1, 1, A), answer(1, 1, 9), call(1, 2, STAT), answer(1, 2, 3, "ok", ("file", 0, 9))]
        self.assertEqual(find_order(history), [(1, 1), (1, 2)])

    def test_the_slot_of_an_open_call_is_a_birth(self):
        for birth, found in ((1000000004, [(4, 1), (1, 1)]), (1000000001, None), (2, None)):
            history = [call(4, 1, A), call(1, 1, STAT), answer(1, 1, 2, "ok", ("file", 0, birth))]
            self.assertEqual(find_order(history), found)

    def test_time(self):
        # The list shows nothing, but was called behind the answer of the create.
        history = [call(1, 1, A), answer(1, 1, 1), call(2, 1), answer(2, 1, 2, "ok", ())]
        self.assertIsNone(find_order(history))
        history = [call(1, 1, A), call(2, 1), answer(1, 1, 1), answer(2, 1, 2, "ok", ())]
        self.assertEqual(find_order(history), [(2, 1), (1, 1)])

    def test_against_all_orders(self):
        rng = seeded(106)
        kinds = {True: 0, False: 0}
        for _ in range(1500):
            history = random_history(rng)
            kept = copy.deepcopy(history)
            found = find_order(history)
            self.assertEqual(history, kept)
            expected = orders(history)
            self.assertEqual(found, min(expected) if expected else None, history)
            kinds[found is None] += 1
            self.check_slots(history, found)
        self.assertGreater(min(kinds.values()), 150)

    def check_slots(self, history, found):
        """Point 10.7."""
        if check(history, [])[0] == "ok":
            self.assertIsNotNone(found, history)

    def test_with_slots(self):
        """Point 10.7, with histories that agree with their slots."""
        rng = seeded(107)
        for _ in range(500):
            history = random_history(rng, honest=True)
            self.assertEqual(check(history, [])[0], "ok")
            self.assertIsNotNone(find_order(history))


OPS = [
    A, B, LIST, STAT, ("remove", ("a",)), ("rename", ("a",), ("b",)), ("write", ("a",), 0, (1,)),
    ("read", ("a",), 0, 2),
]


def random_history(rng, honest=False):
    """A well formed history of up to six calls; most answers come from some order of the calls."""
    plain, slot = Plain(), 0
    numbers, waiting, ready, history = {}, {}, {}, []
    count = rng.randrange(1, 7)
    while count or (waiting or ready) and rng.randrange(8):
        client = rng.randrange(1, 5)
        if client in ready:
            kind, value = ready[client][1:]
            if not honest and not rng.randrange(12):
                kind, value = rng.choice([("ok", ()), ("missing", ()), ("exists", ()), ("ok", ("a",))])
            history.append(("answer", client, numbers[client], (ready.pop(client)[0], kind, value)))
        elif client in waiting:
            slot += rng.randrange(1, 4)
            plain.apply(slot, client, numbers[client], waiting.pop(client))
            ready[client] = plain.answer_of(client, numbers[client])
        elif count:
            count -= 1
            numbers[client] = numbers.get(client, 0) + 1
            waiting[client] = rng.choice(OPS)
            history.append(("call", client, numbers[client], waiting[client]))
    if honest:
        for client in sorted(ready):
            history.append(("answer", client, numbers[client], ready[client]))
    return history


if __name__ == "__main__":
    unittest.main()
