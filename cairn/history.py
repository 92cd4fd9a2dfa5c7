"""Histories of calls and answers, and the orders that explain them."""

from cairn.commands import is_from
from cairn.plain import Plain

# Open calls are performed with slots beyond those of all answers.
OPEN_SLOTS = 1000000000


class Call:
    """A call in a history: its operation, its answer, and the indexes of both entries.

    A call without an answer has None in place of the answer and of its index.
    """

    def __init__(self, op, called):
        self.op = op
        self.called = called
        self.reply = None
        self.replied = None


def check(history, extra):
    """Whether the history is well formed and agrees with its slots."""
    index = form_fault(history)
    if index is not None:
        return "form", index
    calls = calls_of(history)
    index = extra_fault(calls, extra)
    if index is not None:
        return "extra", index
    index = slot_fault(history)
    if index is not None:
        return "slot", index
    slots = slots_of(calls, extra)
    index = time_fault(history, slots)
    if index is not None:
        return "time", index
    order = sorted(slots, key=lambda name: slots[name])
    index = answer_fault(calls, slots, order)
    if index is not None:
        return "answer", index
    return "ok", order


def find_order(history):
    """The least order of the calls that explains the answers, or None."""
    return completed(calls_of(history), [])


def open_calls(history):
    """The calls that have no answer."""
    calls = calls_of(history)
    names = sorted([name for name in calls if calls[name].reply is None])
    return [(client, number, calls[(client, number)].op) for client, number in names]


def calls_of(history):
    """A dict from the names of the calls, which are pairs (client, number), to the calls."""
    calls = {}
    for index, (word, client, number, content) in enumerate(history):
        if word == "call":
            calls[(client, number)] = Call(content, index)
        else:
            calls[(client, number)].reply = content
            calls[(client, number)].replied = index
    return calls


def form_fault(history):
    """The index of the first entry that is not well formed, or None."""
    last_numbers = {}
    # The clients with an open call, as the keys of a dict.
    waiting = {}
    for index, (word, client, number, content) in enumerate(history):
        if word == "call":
            if client in waiting or number != last_numbers.get(client, 0) + 1:
                return index
            last_numbers[client] = number
            waiting[client] = True
        else:
            if client not in waiting or number != last_numbers[client] or not is_from(content[0], 1):
                return index
            del waiting[client]
    return None


def extra_fault(calls, extra):
    """The index of the first entry of extra that names no open call or no free slot, or None."""
    left = {name: True for name in calls if calls[name].reply is None}
    taken = {calls[name].reply[0]: True for name in calls if name not in left}
    for index, (slot, client, number) in enumerate(extra):
        if (client, number) not in left or not is_from(slot, 1) or slot in taken:
            return index
        del left[(client, number)]
        taken[slot] = True
    return None


def slot_fault(history):
    """The index of the first answer whose slot an earlier one has, or None."""
    taken = {}
    for index, (word, _, _, content) in enumerate(history):
        if word == "answer":
            if content[0] in taken:
                return index
            taken[content[0]] = True
    return None


def slots_of(calls, extra):
    """A dict from the names of the closed calls, and of those in extra, to their slots."""
    slots = {name: calls[name].reply[0] for name in calls if calls[name].reply is not None}
    for slot, client, number in extra:
        slots[(client, number)] = slot
    return slots


def time_fault(history, slots):
    """The index of the first call that does not stand behind an earlier answer, or None."""
    greatest = 0
    for index, (word, client, number, content) in enumerate(history):
        if word == "answer":
            greatest = max(greatest, content[0])
        elif (client, number) in slots and slots[(client, number)] <= greatest:
            return index
    return None


def answer_fault(calls, slots, order):
    """The index of the first answer, in this order, that is not that of the plain machine, or None."""
    machine = Plain()
    for name in order:
        if not performs(machine, name, calls[name], slots[name]):
            return calls[name].replied
    return None


def performs(machine, name, call, slot):
    """Perform a call. Returns whether the machine's answer is that of the call, if it has one."""
    client, number = name
    machine.apply(slot, client, number, call.op)
    return call.reply is None or machine.answer_of(client, number) == call.reply


def completed(calls, order):
    """The least order that begins with this one and explains the answers, or None."""
    if not explains(calls, order):
        return None
    missing = [name for name in sorted(calls) if name not in order]
    if all([calls[name].reply is None for name in missing]):
        return order
    for name in missing:
        if may_be_next(calls, missing, name):
            found = completed(calls, order + [name])
            if found is not None:
                return found
    return None


def explains(calls, order):
    """Whether the plain machine, performing the calls in this order, gives their answers."""
    machine = Plain()
    return all([performs(machine, name, calls[name], trial_slot(name, calls[name])) for name in order])


def trial_slot(name, call):
    """The slot with which a call is performed in an order without slots."""
    return OPEN_SLOTS + name[0] if call.reply is None else call.reply[0]


def may_be_next(calls, missing, name):
    """Whether no missing call was answered before the call with this name was made."""
    answers = [calls[other].replied for other in missing if calls[other].replied is not None]
    return all([index > calls[name].called for index in answers])
