"""What the tests of the whole store share: drawn events, worlds that are watched, and their disks."""

from cairn.audit import Audit
from cairn.commands import as_command
from cairn.config import Config
from cairn.extents import octets_of
from cairn.history import open_calls
from cairn.index import Index
from cairn.names import Names
from cairn.world import World

SHAPES = [
    (3, 4, 2, 1), (3, 4, 2, 1), (1, 1, 1, 0), (1, 3, 1, 1), (5, 7, 3, 2), (3, 2, 2, 0), (3, 6, 2, 2), (7, 5, 1, 2),
    (3, 3, 1, 0), (3, 12, 8, 2),
]
NAMES = ("a", "b", "c")
PORTERS = ("p0", "p1")
KINDS = "call again first last deliver drop double tick finish crash boot gone lose rot look".split()


class Watched(World):
    """A world that notes the effects of its processes, each when it is carried out."""

    def __init__(self, config):
        self.config = config
        self.told = {}
        self.answers = []
        self.drops = []
        self.stored = {}
        super().__init__(config)

    def _perform(self, name, effects):
        for effect in effects:
            if effect[0] == "answer":
                self.answers.append((name, effect))
                slot = effect[3][0]
                self.stored.setdefault(slot, self.stored_of(self.process(name).known(slot)))
            elif effect[0] == "send" and effect[2][0] == "tell":
                assert self.told.setdefault(*effect[2][1:]) == effect[2][2]
            elif effect[0] == "send" and effect[2][0] == "drop":
                self.drops.append((effect[2][1], self.process(name)._machine.state(effect[2][1])))
        super()._perform(name, effects)

    def process(self, name):
        return self._processes[name]

    def stored_of(self, command):
        """On how many disks the fragments of a commit are stored."""
        if command[0] != "commit":
            return None
        indexes = [Index(self.config.sectors, self.disk(name)) for name in self.config.shelf_names()]
        return sum(index.fragment(command[1]) is not None for index in indexes)

    def round(self):
        """A round as in a peace."""
        for _ in self.letters():
            self.do(("deliver", 0))
        for name in self.config.keeper_names() + self.config.shelf_names():
            for _ in range(self._disks[name].open_syncs()):
                self.do(("finish", name))
        for name in self.all_names():
            self.do(("tick", name))

    def all_names(self):
        return PORTERS + self.config.keeper_names() + self.config.shelf_names()

    def disks(self):
        """The disks of the keepers, and those of the shelves."""
        names = (self.config.keeper_names(), self.config.shelf_names())
        return tuple({name: self.disk(name) for name in part} for part in names)

    def audit(self):
        return Audit(self.config, *self.disks())

    def stop(self, rng):
        """All processes fall, and each open write is kept, lost or torn."""
        for name in self.all_names():
            self.do(("crash", name, [rng.randrange(3) for _ in range(rng.randrange(6))]))

    def left_over(self):
        """The slots that are left over (7.21)."""
        tallies = [self.process(name).tally() for name in self.config.keeper_names() if self.running(name)]
        slots = {slot for tally in tallies for slot in tally.slots()}
        return [slot for slot in slots if not any(tally.closed(slot) for tally in tallies)]


def drawn_config(rng, count):
    """A configuration whose disks are just large enough for so many events."""
    return Config(*rng.choice(SHAPES), 64 + 16 * count)


def drawn_path(rng):
    return tuple(rng.choice(NAMES) for _ in range(rng.randrange(4)))


def drawn_op(rng):
    name = (rng.choice(NAMES),)
    at = rng.choice((0, 3, 30, 200, 250))
    octets = tuple(rng.randrange(256) for _ in range(rng.choice((0, 1, 3, 20, 64))))
    return rng.choice((
        ("make", drawn_path(rng)), ("create", name), ("create", name), ("remove", drawn_path(rng)),
        ("rename", drawn_path(rng), drawn_path(rng)), ("list", drawn_path(rng)), ("stat", drawn_path(rng)),
        ("read", name, rng.randrange(20), rng.randrange(100)), ("read", name, 0, 256), ("write", name, at, octets),
        ("write", name, 0, octets), ("write", name, at, octets), ("cut", name, rng.choice((0, 5, 100, 257))),
    ))


def drawn_weights(rng):
    """How often each kind of an event is drawn."""
    weights = {kind: rng.choice((0, 1, 1, 3)) for kind in KINDS}
    weights.update(call=rng.choice((1, 4)), first=rng.choice((2, 10, 20)), finish=rng.choice((1, 5, 10)))
    return weights


def drawn_event(rng, config, weights):
    kind = rng.choices(KINDS, [weights[kind] for kind in KINDS])[0]
    keepers, shelves = config.keeper_names(), config.shelf_names()
    name = rng.choice(PORTERS + keepers + shelves)
    porter, shelf, client = rng.choice(PORTERS), rng.choice(shelves), rng.randrange(1, 5)
    place = rng.randrange(8)
    return {
        "call": ("call", porter, client, drawn_op(rng)),
        "again": ("again", porter, client),
        "first": ("deliver", 0),
        "last": ("deliver", -1),
        "deliver": ("deliver", rng.randrange(1000)),
        "drop": ("drop", rng.randrange(1000)),
        "double": ("double", rng.randrange(1000)),
        "tick": ("tick", rng.choice((porter, porter, porter, name))),
        "finish": ("finish", rng.choice(keepers + shelves)),
        "crash": ("crash", name, [rng.randrange(3) for _ in range(rng.randrange(4))]),
        "boot": ("boot", name),
        "gone": ("gone", rng.choice(keepers)),
        "lose": ("lose", shelf),
        "rot": ("rot", shelf, place, rng.randrange(32), rng.randrange(256)),
        "look": ("look", shelf, place),
    }[kind]


def events_between(rng, config):
    """Up to 24 drawn events."""
    weights = drawn_weights(rng)
    return [drawn_event(rng, config, weights) for _ in range(rng.choice((24, rng.randrange(25))))]


def calls_of(history):
    return {entry[1:3]: entry[3] for entry in history if entry[0] == "call"}


def extra_calls(history, log):
    """The open calls that the log has carried out, as tuples (slot, client, number)."""
    left = {call[:2] for call in open_calls(history)}
    machine, found = Names(), []
    for slot, command in enumerate(log, 1):
        machine.apply(slot, as_command(command))
        for client, number in sorted(left):
            if machine.last_number(client) == number:
                found.append((slot, client, number))
                left.discard((client, number))
    return found


def check_log(test, history, log):
    """Each answer of the history is that of the log (9.16), and its slot performed it (7.20)."""
    calls = calls_of(history)
    answers = {entry[3][0]: entry for entry in history if entry[0] == "answer"}
    machine, written = Names(), {}
    for slot, command in enumerate(log, 1):
        command = as_command(command)
        if command[0] == "commit":
            written[command[1]] = list(calls[command[2:4]][3])
        machine.apply(slot, command)
        if slot in answers:
            _, client, number, answer = answers.pop(slot)
            op = calls[client, number]
            performed = command[1:] if command[0] == "do" else ("commit", *command[2:])
            if op[0] == "write" and op[3]:
                test.assertEqual(performed, ("commit", client, number, op[1], op[2], len(op[3])))
            else:
                test.assertEqual(performed, (client, number, op))
            found = machine.answer_of(client, number)
            if op[0] == "read" and found[1] == "ok":
                found = found[:2] + (tuple(octets_of(found[2], written)),)
            test.assertEqual(found, answer)
    test.assertEqual(answers, {})
