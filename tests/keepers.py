"""What the tests of keepers share."""

from cairn.config import Config
from cairn.diary import Diary
from cairn.keeper import Keeper
from cairn.pack import pack, unpack
from support import Disk

SYNC = ("sync",)


def config_of(sectors):
    return Config(3, 4, 2, 1, sectors)


def new_keeper(sectors=64, disk=None):
    return Keeper("k0", config_of(sectors), disk or {})


def reply(*letter, to="p0"):
    return ("send", to, letter)


def finished(keeper):
    """What leaves the keeper when all its syncs finish."""
    found = []
    for _ in range(100):
        found.extend(keeper.synced())
    return found


def use(records):
    """How many sectors the records occupy (3.12)."""
    lengths = [len(pack(record)) for record in records]
    return sum(1 if length <= 7 else 1 + (length - 7 + 20) // 21 for length in lengths)


def disk_of(*records, sectors=64):
    """A disk with a diary that has these records."""
    diary = Diary(0, sectors, {})
    return {place: found for record in records for _, place, found in diary.enter(pack(record))[1]}


class Paper:
    """The diary of a keeper, kept beside it: what the keeper should write."""

    def __init__(self, sectors, stored):
        self.diary = Diary(0, sectors, stored)
        self.sectors = sectors

    def records(self):
        return [unpack(record) for _, record in self.diary.entries()]

    def entered(self, *records):
        """The effects when these are entered, with one flush behind them."""
        effects = [effect for record in records for effect in self.diary.enter(pack(record))[1]]
        return effects + self.diary.flush()

    def restating(self, restated, record):
        """The effects when a state is restated before the record (5.14)."""
        first = self.diary.next_number()
        effects = [effect for found in restated for effect in self.diary.enter(pack(found))[1]]
        self.diary.forget(first)
        return effects + self.entered((0,), record)

    def due(self, restated, record):
        """Whether a state is to be restated before the record (5.14)."""
        free = self.diary.free()
        return (
            free < self.sectors / 2 and use(restated) + 1 + use([record]) <= free
            and 2 * use(restated) + 2 <= self.sectors - free
        )


class Home:
    """A keeper with its disk, which crashes and starts again."""

    def __init__(self, sectors):
        self.sectors = sectors
        self.disk = Disk()
        self.boot()

    def boot(self):
        self.keeper = new_keeper(self.sectors, dict(self.disk.stored))
        self.paper = Paper(self.sectors, dict(self.disk.stored))

    def take(self, effects):
        """Carry effects out. Returns the letters among them."""
        self.disk.perform(effects)
        return [effect[1:] for effect in effects if effect[0] == "send"]

    def letter(self, sender, letter):
        return self.take(self.keeper.letter(sender, letter))

    def finish(self):
        if not self.disk.open_syncs:
            return []
        self.disk.finish()
        self.paper.diary.synced()
        return self.take(self.keeper.synced())
