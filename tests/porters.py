"""What the tests of porters share: letters that are built by hand."""

from cairn.config import Config
from cairn.porter import Porter

SMALL = Config(3, 4, 2, 1, 64)
KEEPERS = ("k0", "k1", "k2")
SHELVES = ("s0", "s1", "s2", "s3")
NUMBERS = {"p0": 0, "p1": 1}


def new_porter(me="p0", life=1, config=SMALL):
    return Porter(me, config, life)


def sends(pairs):
    return [("send", to, letter) for to, letter in pairs]


def to_all(letter, names=KEEPERS):
    return [("send", name, letter) for name in names]


def asks(slot, ballot):
    return to_all(("ask", slot, ballot))


def votes(slot, ballot, command):
    return to_all(("vote", slot, ballot, command))


def tells(slot, command):
    return to_all(("tell", slot, command))


def reads(slot):
    return to_all(("read", slot))


def answer(client, number, *found):
    return [("answer", client, number, found)]


def promise(porter, slot, ballot, *keepers, voted=(), command=()):
    """Some keepers promise. Returns all effects."""
    found = []
    for keeper in keepers or KEEPERS[:2]:
        found += porter.letter(keeper, ("promise", slot, ballot, voted, command))
    return found


def vote(porter, slot, ballot, *keepers):
    """Some keepers vote. Returns all effects."""
    found = []
    for keeper in keepers or KEEPERS[:2]:
        found += porter.letter(keeper, ("voted", slot, ballot))
    return found


def decide(porter, slot, ballot):
    """A proposal that is under way gets its way. Returns the effects of the last vote."""
    promise(porter, slot, ballot)
    return vote(porter, slot, ballot)


def learn(porter, slot, *commands):
    """The porter learns what is decided from a slot on. Returns the effects."""
    entries = tuple((slot + k, (), command) for k, command in enumerate(commands))
    return porter.letter("k2", ("log", slot, entries))


def quiet(porter, count):
    """Some ticks. Returns the effects of the last one."""
    found = []
    for _ in range(count):
        found = porter.tick()
    return found


def create(client, number, *path):
    return ("do", client, number, ("create", path))


NOOP = ("noop",)
