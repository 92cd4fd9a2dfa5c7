"""Simulated worlds: all processes of a store, their disks, and the letters under way."""

from cairn.commands import is_client, is_operation
from cairn.disks import KEPT, Disk
from cairn.keeper import Keeper
from cairn.ledger import Ledger
from cairn.porter import Porter
from cairn.shelf import Shelf

# How many rounds a peace has.
PEACE = 160

PORTERS = ("p0", "p1")


class World:
    """A world with the processes of a configuration."""

    def __init__(self, config):
        self._config = config
        self._keepers = config.keeper_names()
        self._shelves = config.shelf_names()
        self._disks = {name: Disk() for name in self._keepers + self._shelves}
        # For each porter how often it has started.
        self._lives = {name: 0 for name in PORTERS}
        # The processes that run, by their names.
        self._processes = {}
        # The keepers that are gone and the shelves that are bad, as the keys of dicts.
        self._lost_keepers = {}
        self._bad_shelves = {}
        self._under_way = []
        self._ledger = Ledger()
        self._wrong = ""
        for name in self._names():
            self._start(name)

    def do(self, event):
        """Perform an event, if it applies."""
        if self._wrong != "":
            return
        match event:
            case ("call", porter, client, op):
                self._call(porter, client, op)
            case ("again", porter, client):
                self._call_again(porter, client)
            case ("deliver", index):
                self._deliver(index)
            case ("drop", index):
                self._take_letter(index)
            case ("double", index):
                self._double(index)
            case ("tick", process):
                self._tick(process)
            case ("finish", process):
                self._finish(process)
            case ("crash", process, fates):
                self._fall(process, fates)
            case ("boot", process):
                self._boot(process)
            case ("gone", keeper):
                self._lose_keeper(keeper)
            case ("lose", shelf):
                self._lose_disk(shelf)
            case ("rot", shelf, place, cell, value):
                self._rot(shelf, place, cell, value)
            case ("look", shelf, place):
                self._look(shelf, place)
            case ("peace",):
                self._peace()

    def history(self):
        """The calls and answers so far."""
        return self._ledger.entries()

    def fault(self):
        """What has gone wrong: "", "answer" or "open"."""
        return self._wrong

    def letters(self):
        """The letters under way."""
        return list(self._under_way)

    def running(self, process):
        """Whether the process runs."""
        return process in self._processes

    def bad(self):
        """The bad shelves, in order."""
        return [shelf for shelf in self._shelves if shelf in self._bad_shelves]

    def disk(self, process):
        """What is stored on the disk of a keeper or a shelf."""
        return self._disks[process].content()

    def _names(self):
        """All processes, in order."""
        return PORTERS + self._keepers + self._shelves

    def _start(self, name):
        """A process that does not run starts."""
        if name in PORTERS:
            self._lives[name] = self._lives[name] + 1
            self._processes[name] = Porter(name, self._config, self._lives[name])
        elif name in self._keepers:
            self._processes[name] = Keeper(name, self._config, self._disks[name].content())
        else:
            self._processes[name] = Shelf(name, self._config, self._disks[name].content())

    def _fall(self, name, fates):
        """A process falls, if it runs."""
        if name in self._processes:
            del self._processes[name]
            if name in self._disks:
                self._disks[name].fall(fates)

    def _perform(self, name, effects):
        """Carry out what a method of a process has returned."""
        for effect in effects:
            match effect:
                case ("send", to, letter):
                    self._under_way.append((name, to, letter))
                case ("write", place, sector):
                    self._disks[name].write(place, sector)
                case ("sync",):
                    self._disks[name].sync()
                case ("answer", client, number, answer):
                    if not self._ledger.note(client, number, answer):
                        self._wrong = "answer"

    def _pass_call(self, porter, call):
        """Pass a call, a tuple (client, number, op), to a porter."""
        client, number, op = call
        self._perform(porter, self._processes[porter].call(client, number, op))

    def _call(self, porter, client, op):
        if not self._is_running_porter(porter) or not is_client(client) or not is_operation(op):
            return
        if not self._ledger.is_open(client):
            self._ledger.begin(client, op)
        self._pass_call(porter, self._ledger.last_call(client))

    def _call_again(self, porter, client):
        call = self._ledger.last_call(client)
        if self._is_running_porter(porter) and call is not None and not self._ledger.is_open(client):
            self._pass_call(porter, call)

    def _is_running_porter(self, name):
        return name in PORTERS and name in self._processes

    def _take_letter(self, index):
        """Take a letter off those under way. Returns it, or None if there is none."""
        if not self._under_way:
            return None
        return self._under_way.pop(index % len(self._under_way))

    def _deliver(self, index):
        found = self._take_letter(index)
        if found is not None:
            self._hand_over(found)

    def _hand_over(self, found):
        """Pass a letter to its receiver, if that runs."""
        sender, to, letter = found
        if to in self._processes:
            self._perform(to, self._processes[to].letter(sender, letter))

    def _double(self, index):
        if self._under_way:
            self._under_way.append(self._under_way[index % len(self._under_way)])

    def _tick(self, name):
        if name in self._processes:
            self._perform(name, self._processes[name].tick())

    def _finish(self, name):
        """Finish the oldest open sync of a process that has a disk."""
        if name in self._processes and name in self._disks:
            self._disks[name].finish()
            self._perform(name, self._processes[name].synced())

    def _boot(self, name):
        if name in self._names() and name not in self._processes and name not in self._lost_keepers:
            self._start(name)

    def _lose_keeper(self, name):
        """A keeper is gone for ever, if enough others are left."""
        spare = self._config.keepers // 2
        if name in self._keepers and name not in self._lost_keepers and len(self._lost_keepers) < spare:
            self._fall(name, [])
            self._lost_keepers[name] = True

    def _may_be_bad(self, name):
        """Whether the disk of a shelf may be lost or damaged."""
        if name not in self._shelves:
            return False
        return name in self._bad_shelves or len(self._bad_shelves) < self._config.spare

    def _lose_disk(self, name):
        if self._may_be_bad(name):
            self._fall(name, [])
            self._disks[name] = Disk()
            self._bad_shelves[name] = True

    def _rot(self, name, place, cell, value):
        if self._may_be_bad(name) and self._disks[name].can_rot(place, cell, value):
            self._disks[name].rot(place, cell, value)
            self._bad_shelves[name] = True

    def _look(self, name, place):
        if name in self._shelves and name in self._processes:
            self._perform(name, self._processes[name].look(place, self._disks[name].shown(place)))

    def _peace(self):
        """All processes start anew and are left in peace for some time."""
        for name in self._names():
            if name not in self._lost_keepers:
                self._fall(name, [KEPT])
                self._start(name)
        for call in self._ledger.open_calls():
            self._pass_call(PORTERS[0], call)
        for _ in range(PEACE):
            self._round()
        self._bad_shelves = {}
        if self._wrong == "" and self._ledger.open_calls():
            self._wrong = "open"

    def _round(self):
        """Each letter is delivered, each sync is finished, and each process gets a tick."""
        letters = self._under_way
        self._under_way = []
        for found in letters:
            self._hand_over(found)
        for name in self._keepers + self._shelves:
            if name in self._processes:
                for _ in range(self._disks[name].open_syncs()):
                    self._finish(name)
        for name in self._names():
            self._tick(name)


def run(config, events):
    """The world after all events."""
    world = World(config)
    for event in events:
        world.do(event)
    return world
