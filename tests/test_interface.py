"""The names, arguments and attributes that the interface promises."""

import ast
import importlib
import pathlib
import unittest

import cairn
from cairn import errors
from cairn.audit import Audit
from cairn.ballot import Learner, Proposal, Tally
from cairn.care import Care
from cairn.code import Code
from cairn.config import Config
from cairn.keeper import Keeper
from cairn.names import Names
from cairn.plain import Plain
from cairn.porter import Porter
from cairn.reader import Reader
from cairn.rounds import Repair, Survey, plan, whole
from cairn.shelf import Shelf
from cairn.tree import Tree
from cairn.world import PEACE, World, run
from cairn.writer import Writer

PACKAGE = pathlib.Path(cairn.__file__).parent

ERRORS = (
    "ZeroElement DuplicatePoint ShapeMismatch Singular NoSolution BadCode BadIndex NotEnough "
    "UnequalBlocks TooManyErrors Unreadable RecordTooLong DiaryFull NoSuchRecord ShelfFull "
    "FragmentTooLong AlreadyHeld NotHeld BadConfig BadRepair TooFewDisks BlobLost NoFile"
).split()

# For each module its functions, and its classes with their methods.
FUNCTIONS = {
    "field": """add(a, b); mul(a, b); inv(a); div(a, b); power(a, n); trim(p); degree(p);
        evaluate(p, x); poly_add(p, q); poly_mul(p, q); poly_divmod(p, q); interpolate(points)""",
    "matrix": """identity(n); mat_mul(a, b); mat_vec(a, v); rank(a); inverse(a); solve(a, v);
        vandermonde(xs, width)""",
    "correct": "correct(code, pieces); damaged(code, pieces)",
    "pack": "pack(value); unpack(octets)",
    "ballot": "majority(count); next_ballot(seen, porter, life); entries(tally, slot)",
    "extents": """total(extents); part(extents, at, count); placed(extents, at, size, ticket);
        resized(extents, size); octets_of(extents, blobs); tickets_of(extents)""",
    "commands": "is_command(value); is_operation(value)",
    "blobs": """holder(config, ticket, index); index_on(config, ticket, shelf);
        fragments(config, octets); whole_blob(config, pieces, size)""",
    "rounds": "plan(config, wanted, dead, listings); whole(config, wanted, listings)",
    "history": "check(history, extra); find_order(history); open_calls(history)",
    "world": "run(config, events)",
    "seals": """check_octet(octets); seal_half(stamp, data); read_half(half); seal(stamp, data);
        read_sector(sector); newest_stamp(sectors)""",
}
METHODS = {
    ("code", "Code"): """__init__(self, data, total); row(self, i); word(self, blocks);
        fragment(self, blocks, i); rebuild(self, pieces); restore(self, pieces, i);
        consistent(self, pieces); amend(self, i, fragment, j, old, new); chunks(self, octets);
        merge(self, blocks, size)""",
    ("diary", "Diary"): """__init__(self, first, count, sectors); entries(self);
        next_number(self); base(self); enter(self, record); flush(self); synced(self);
        forget(self, number); free(self); hurt(self)""",
    ("index", "Index"): """__init__(self, count, sectors); tickets(self); fragment(self, ticket);
        runs(self, ticket); put(self, ticket, index, octets); rewrite(self, ticket);
        drop(self, ticket); trim(self, ticket); spoilt(self, place, sector); free(self);
        hurt(self)""",
    ("shelf", "Shelf"): """__init__(self, me, config, sectors); letter(self, sender, letter);
        synced(self); tick(self); look(self, place, sector); holds(self); is_safe(self, ticket);
        waiting(self)""",
    ("ballot", "Tally"): """__init__(self, records); apply(self, record); promised(self, slot);
        voted(self, slot); command(self, slot); closed(self, slot); slots(self); records(self)""",
    ("ballot", "Learner"): """__init__(self, keepers); heard(self, sender, entries);
        closed(self, slot, command); command(self, slot); reach(self); top(self)""",
    ("ballot", "Proposal"): """__init__(self, slot, ballot, command, keepers); letters(self);
        letter(self, sender, letter)""",
    ("keeper", "Keeper"): """__init__(self, me, config, sectors); letter(self, sender, letter);
        synced(self); tick(self); tally(self)""",
    ("tree", "Tree"): """__init__(self); make(self, path, slot); create(self, path, slot);
        delete(self, path); rename(self, old, new); names(self, path); node(self, path);
        paths(self); size(self)""",
    ("plain", "Plain"): """__init__(self); apply(self, slot, client, number, operation);
        answer_of(self, client, number); last_number(self, client); dump(self)""",
    ("names", "Names"): """__init__(self); apply(self, slot, command);
        answer_of(self, client, number); last_number(self, client); state(self, ticket);
        wanted(self); intended(self); idle(self); dead(self); ticket_of(self, client, number);
        extents(self, path); dump(self)""",
    ("config", "Config"): """__init__(self, keepers, shelves, data, spare, sectors);
        keeper_names(self); shelf_names(self)""",
    ("writer", "Writer"): """__init__(self, config, ticket, octets); letters(self);
        kept(self, sender, ticket, index); safe(self); full(self)""",
    ("reader", "Reader"): """__init__(self, config, extents, sizes); letters(self);
        piece(self, sender, ticket, index, octets); result(self)""",
    ("porter", "Porter"): """__init__(self, me, config, life); call(self, client, number, op);
        letter(self, sender, letter); tick(self); reach(self); known(self, slot); jobs(self)""",
    ("rounds", "Survey"): """__init__(self, config); letters(self); have(self, sender, tickets);
        complete(self); listed(self, shelf)""",
    ("rounds", "Repair"): """__init__(self, config, ticket, size, shelves); letters(self);
        piece(self, sender, ticket, index, octets); kept(self, sender, ticket, index);
        done(self)""",
    ("care", "Care"): """__init__(self, config); tick(self, machine);
        letter(self, sender, letter); wanted_command(self, machine); phase(self)""",
    ("audit", "Audit"): """__init__(self, config, keeper_disks, shelf_disks); log(self);
        certain(self, slot); names(self); blob(self, ticket, size);
        blob_octets(self, ticket, size); report(self); margin(self); healthy(self);
        files(self); octets(self, path)""",
    ("world", "World"): """__init__(self, config); do(self, event); history(self); fault(self);
        letters(self); running(self, process); bad(self); disk(self, process)""",
}


def heads(text):
    """The pairs (name, arguments) that a text lists."""
    found = []
    for head in text.split(";"):
        name, _, rest = head.strip().partition("(")
        found.append((name, rest.rstrip(")")))
    return found


def tree_of(module):
    return ast.parse((PACKAGE / f"{module}.py").read_text())


def defined(body):
    """The arguments of the functions that are defined directly in a body."""
    return {node.name: ast.unparse(node.args) for node in body if isinstance(node, ast.FunctionDef)}


def class_body(module, name):
    for node in tree_of(module).body:
        if isinstance(node, ast.ClassDef) and node.name == name:
            return node.body
    return []


class InterfaceTest(unittest.TestCase):

    def test_functions_are_defined_where_they_are_listed(self):
        for module, text in FUNCTIONS.items():
            found = defined(tree_of(module).body)
            for name, arguments in heads(text):
                with self.subTest(module=module, name=name):
                    self.assertEqual(found.get(name), arguments)
                    self.assertTrue(callable(getattr(importlib.import_module(f"cairn.{module}"), name)))

    def test_methods_are_defined_in_their_class(self):
        for (module, owner), text in METHODS.items():
            found = defined(class_body(module, owner))
            for name, arguments in heads(text):
                with self.subTest(module=module, owner=owner, name=name):
                    self.assertEqual(found.get(name), arguments)
                    self.assertTrue(hasattr(importlib.import_module(f"cairn.{module}"), owner))

    def test_attributes_of_a_code(self):
        code = Code(3, 5)
        self.assertEqual((code.data, code.total), (3, 5))

    def test_attributes_of_a_proposal(self):
        proposal = Proposal(4, (2, 1, 3), ("noop",), ("k0", "k1", "k2"))
        found = (proposal.slot, proposal.ballot, proposal.command, proposal.phase, proposal.beaten)
        self.assertEqual(found, (4, (2, 1, 3), ("noop",), "asking", ()))

    def test_attributes_of_a_config(self):
        config = Config(3, 4, 2, 1, 64)
        found = (config.keepers, config.shelves, config.data, config.spare, config.sectors)
        self.assertEqual(found, (3, 4, 2, 1, 64))

    def test_attributes_of_writers_and_repairs(self):
        config = Config(3, 4, 2, 1, 64)
        self.assertEqual(Writer(config, 9, [1, 2]).ticket, 9)
        repair = Repair(config, 9, 2, ["s1", "s3"])
        self.assertEqual((repair.ticket, repair.targets), (9, ("s1", "s3")))

    def test_peace(self):
        self.assertEqual(PEACE, 160)
        names = [target.id for node in tree_of("world").body if isinstance(node, ast.Assign) for target in node.targets]
        self.assertIn("PEACE", names)

    def test_the_arguments_by_their_names(self):
        """Each constructor of a process and of a machine takes the listed arguments."""
        config = Config(keepers=3, shelves=4, data=2, spare=1, sectors=64)
        Shelf(me="s0", config=config, sectors={})
        Keeper(me="k0", config=config, sectors={})
        Proposal(slot=1, ballot=(1, 0, 1), command=(), keepers=config.keeper_names())
        Learner(keepers=config.keeper_names())
        Tally(records=[])
        Tree()
        Plain()
        Names()
        Writer(config=config, ticket=1, octets=[1])
        Reader(config=config, extents=(), sizes={})
        Survey(config=config)
        Repair(config=config, ticket=1, size=1, shelves=["s0"])
        plan(config=config, wanted={}, dead=[], listings={})
        whole(config=config, wanted={}, listings={})
        Care(config=config)
        Porter(me="p0", config=config, life=1)
        Audit(config=config, keeper_disks={"k0": {}, "k1": {}}, shelf_disks={})
        World(config=config)
        run(config=config, events=[])


class ErrorsTest(unittest.TestCase):

    def test_the_base_class(self):
        self.assertEqual(errors.CairnError.__bases__, (ValueError,))

    def test_each_error_derives_from_the_base_class_alone(self):
        for name in ERRORS:
            with self.subTest(name=name):
                self.assertEqual(getattr(errors, name).__bases__, (errors.CairnError,))

    def test_each_error_is_defined_in_the_file(self):
        found = {node.name for node in tree_of("errors").body if isinstance(node, ast.ClassDef)}
        self.assertEqual(found, {"CairnError", *ERRORS})

    def test_no_error_is_a_subclass_of_another_one(self):
        classes = [getattr(errors, name) for name in ERRORS]
        for one in classes:
            for other in classes:
                self.assertEqual(issubclass(one, other), one is other)

    def test_errors_are_created_with_one_string(self):
        for name in ["CairnError", *ERRORS]:
            with self.subTest(name=name):
                self.assertEqual(str(getattr(errors, name)("what is wrong")), "what is wrong")

    def test_no_other_file_defines_an_error(self):
        for path in PACKAGE.glob("*.py"):
            if path.name != "errors.py":
                for node in ast.walk(ast.parse(path.read_text())):
                    if isinstance(node, ast.ClassDef):
                        self.assertEqual(node.bases, [], f"{path.name}: {node.name}")


if __name__ == "__main__":
    unittest.main()
