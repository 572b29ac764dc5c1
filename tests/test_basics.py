"""Promise [1], of all functions that there are: what they take, what they return."""

import copy
import inspect
import unittest

from mendvault import (
    blocks,
    caring,
    checking,
    codes,
    desk,
    digests,
    errors,
    field,
    finding,
    harms,
    indexing,
    opening,
    papers,
    polys,
    records,
    states,
    stripes,
    sums,
    vaults,
    writing,
)
from tests.helper import as_lists, slow_row, slow_striped, spoiled

# The values of a block, and its row.
VALUES = (2, 2, 1, 300, 4, 62, 1, 6, tuple(range(31)))
ROW = slow_row(*VALUES)

# The blocks of a text of one stripe.
STRIPE = tuple(blocks.Block(v, 2, 1, 3, 4, 5, 1, 6, row[13:44]) for v, row in
               enumerate(slow_striped("hello", 2, 1, 3, 4, 6)))

# A transaction's text, and what it tells.
EDITS = (("put", "a", "x"), ("rename", "a", "b"), ("wipe",))
TEXT = records.transaction_text(7, EDITS)

# A state of a name and a label.
STATE = states.State().grown((("put", "a", "1"), ("snapshot", "s")))

# Writes, and the volume that they leave.
WRITES = (("block", 0, ROW), ("cut", 0, 3), ("block", 0, ROW))

# A paper of the name, which is the last of the five leaves of the state.
LEAVES = ("wipe\n", "put a 1\n1\n", "snapshot s\n", "wipe\n", "put a 1\n1\n")
BELONGS = f"belongs 4 5\nput a 1\n1\nby {digests.root(LEAVES[:4])}\n"

# The digest of a history of one transaction without edits.
GROWN = digests.digest(f"C1914 {digests.digest(records.transaction_text(0, ()))}")

# For each function: its parameters, then calls of it, each with what it returns or raises.
CALLS = (
    (field.added, ("a", "b"), (((0, 127), 127), ((9, 9), 0))),
    (field.times, ("a", "b"), (((64, 2), 3), ((1, 0), 0))),
    (field.inverse, ("a",), (((1,), 1), ((0,), ("BadValue", {"at": 0})))),
    (field.over, ("a", "b"), (((3, 64), 2), ((0, 5), 0), ((5, 0), ("BadValue", {"at": 1})))),
    (field.power, ("a", "n"), (((2, 7), 3), ((0, 0), 1), ((0, 1), 0))),
    (field.logarithm, ("a",), (((3,), 7), ((1,), 0), ((0,), ("BadValue", {"at": 0})))),
    (polys.trimmed, ("row",), ((((1, 0),), (1,)), (((0,),), ()), (((1, 2),), (1, 2)), (((),), ()))),
    (polys.poly_added, ("p", "q"), ((((1, 2), (1,)), (0, 2)), (((1,), ()), (1,)), (((1,), (1,)), ()))),
    (polys.poly_times, ("p", "q"), ((((1, 1), (1, 1)), (1, 0, 1)), (((1,), ()), ()), (((), ()), ()))),
    (polys.poly_value, ("p", "x"), ((((5, 7), 1), 2), (((), 1), 0))),
    (
        polys.poly_divided,
        ("p", "q"),
        (
            (((0, 0, 1), (1, 1)), ((1, 1), (1,))),
            (((7,), (1, 2)), ((), (7,))),
            (((), (1,)), ((), ())),
            (((1,), ()), ("BadValue", {"at": 1})),
        ),
    ),
    (
        polys.poly_through,
        ("points",),
        (
            ((((0, 1), (1, 0)),), (1, 1)),
            (((),), ()),
            ((((0, 1), (0, 1)),), ("BadValue", {"at": 0})),
        ),
    ),
    (codes.encoded, ("data", "r"), ((((0, 1), 2), (0, 1, 2, 3)), (((4, 5), 0), (4, 5)))),
    (
        codes.filled,
        ("symbols", "k"),
        (
            (((None, 1, 2), 2), (0, 1, 2)),
            (((0, 1, 2), 3), (0, 1, 2)),
            (((None, 1), 2), ("Beyond", {"word": "lost"})),
            (((0, 1, 1), 2), ("Beyond", {"word": "parted"})),
        ),
    ),
    (
        codes.corrected,
        ("symbols", "k"),
        (
            (((0, 1, None, 9, 4), 2), ((0, 1, 2, 3, 4), (3,))),
            (((0, 1, 2), 3), ((0, 1, 2), ())),
            (((None, 1), 2), ("Beyond", {"word": "lost"})),
            (((0, 1, 1), 2), ("Beyond", {"word": "far"})),
        ),
    ),
    (sums.summed, ("row",), ((((127,) * 4,), 0), (((),), 268435455))),
    (sums.joined, ("one", "other", "length"), (((0, 268435455, 0), 0), ((268435455, 7, 9), 7))),
    (sums.sum_row, ("number",), (((129,), (0, 0, 1, 1)), ((0,), (0, 0, 0, 0)))),
    (sums.text_sum, ("text",), ((("",), 268435455),)),
    (
        blocks.Block,
        ("volume", "k", "r", "epoch", "stripe", "used", "last", "number", "payload"),
        (
            (VALUES, blocks.Block(*VALUES)),
            ((3,) + VALUES[1:], ("BadValue", {"at": 0})),
            (VALUES[:8] + ((1, 2, 3),), ("BadValue", {"at": 8})),
        ),
    ),
    (blocks.read_block, ("row",), (((ROW,), blocks.Block(*VALUES)), ((ROW[1:],), None), (((),), None))),
    (finding.found, ("piece",), ((((7,) + ROW,), ((1, blocks.Block(*VALUES)),)), (((),), ()))),
    (finding.gaps, ("piece",), ((((7,) + ROW,), ((0, 1),)), ((ROW,), ()), (((),), ()))),
    (
        stripes.striped,
        ("text", "k", "r", "epoch", "stripe", "number"),
        (
            (("hello", 2, 1, 3, 4, 6), STRIPE),
            (("", 2, 1, 3, 4, 6), ("BadValue", {"at": 0})),
            (("hello", 2, 1, 3, 4, -1), ("BadValue", {"at": 5})),
        ),
    ),
    (
        stripes.joined_stripe,
        ("blocks",),
        (
            ((STRIPE[1:],), ("hello", STRIPE)),
            (((),), ("Beyond", {"word": "lost"})),
            ((STRIPE[:1] * 2,), ("Beyond", {"word": "parted"})),
        ),
    ),
    (records.is_name, ("word",), ((("a1",), True), (("1a",), False), (("",), False))),
    (records.edit_text, ("edit",), (((("put", "a", "x"),), "put a 1\nx\n"), ((("wipe",),), "wipe\n"))),
    (records.transaction_text, ("number", "edits"), (((7, EDITS), TEXT), ((0, ()), "tx 0 0\nend 102427745\n"))),
    (records.read_transaction, ("text",), (((TEXT,), (7, EDITS)), (("tx",), ("BadText", {"at": 0})))),
    (states.State, (), (((), states.State()),)),
    (
        states.base_edits,
        ("state",),
        (((STATE,), (("wipe",), ("put", "a", "1"), ("snapshot", "s"), ("wipe",), ("put", "a", "1"))),),
    ),
    (
        writing.played,
        ("writes", "many", "part"),
        (
            ((WRITES, 3, 0), (ROW[3:] + ROW,)),
            ((WRITES, 2, 5), (ROW[3:] + ROW[:5],)),
            (((), 0, 0), ()),
            ((WRITES, 4, 0), ("BadValue", {"at": 1})),
            ((WRITES, 3, 1), ("BadValue", {"at": 2})),
        ),
    ),
    (
        indexing.index_of,
        ("transactions", "k"),
        ((((EDITS[:2],), 1), (("b", ((0, 0, 15, 16),)),)), (((EDITS,), 2), ()), (((), 1), ())),
    ),
    (
        indexing.label_index,
        ("transactions", "k"),
        ((((EDITS[:1] + (("snapshot", "s"),),), 1), (("s", (("a", ((0, 0, 15, 16),)),)),)), (((), 1), ())),
    ),
    (
        indexing.fetched,
        ("pieces", "epoch", "k", "r", "spans"),
        (
            ((tuple(block.row() for block in STRIPE[1:]), 3, 2, 1, ((4, 0, 1, 4),)), ("ell", ((4, 1), (4, 2)))),
            (((), 3, 2, 1, ()), ("", ())),
            (((), 3, 2, 1, ((4, 0, 1, 4),)), ("Beyond", {"word": "lost"})),
        ),
    ),
    (
        harms.harmed,
        ("volumes", "harms"),
        (
            ((((1, 2), (3,)), (("change", 0, 1, (9, 9)), ("double", 1))), ((1, 9), (3,), (3,))),
            (((), ()), ()),
            ((((1,),), (("lose", 0), ("lose", 1))), ("BadValue", {"at": 1})),
        ),
    ),
    (digests.digest, ("text",), ((("",), 7), (("a",), 1939))),
    (digests.root, ("texts",), ((((),), 1911), ((("",),), 1918))),
    (
        digests.way,
        ("texts", "at"),
        (
            ((("", "", ""), 0), ((1, 1918), (1, 1918))),
            ((("",), 0), ()),
            (((), 0), ("BadValue", {"at": 1})),
        ),
    ),
    (digests.state_digest, ("state",), (((states.State(),), digests.digest("Lwipe\n")),)),
    (digests.history, ("transactions",), ((((),), (1914,)), ((((),),), (1914, GROWN)))),
    (
        papers.belongs_paper,
        ("state", "name"),
        (((STATE, "a"), BELONGS), ((STATE, "b"), ("NothingThere", {"name": "b"}))),
    ),
    (
        papers.grown_paper,
        ("transactions", "many"),
        ((((EDITS,), 1), "grown 1\n"), (((), 0), "grown 0\n"), (((), 1), ("BadValue", {"at": 1}))),
    ),
    (
        checking.climbed,
        ("text", "at", "many", "partners"),
        (
            (("", 1, 2, (1918,)), digests.root(("", ""))),
            (("", 0, 1, ()), 1918),
            (("", 1, 1, ()), ("BadValue", {"at": 1})),
            (("", 0, 1, (5,)), ("BadValue", {"at": 3})),
        ),
    ),
    (
        checking.belongs_holds,
        ("paper", "number"),
        (((BELONGS, digests.state_digest(STATE)), ("a", "1")), ((BELONGS, 5), ("BadPaper", {"at": 0}))),
    ),
    (
        checking.grown_holds,
        ("paper", "elder", "newer"),
        ((("grown 0\n", 5, 5), 0), (("grown 0\n", 5, 6), ("BadPaper", {"at": 0}))),
    ),
    (
        checking.same_holds,
        ("paper", "pieces", "others"),
        (
            ((f"same {digests.digest('Lwipe' + chr(10))}\n", ((1, 2),), ()), True),
            (("same 1\n", (), ((128,),)), False),
            (("", (), ()), False),
        ),
    ),
)

# Functions that take or return objects without a likeness: what comes of their calls is told in tests of their own.
OTHERS = (
    (opening.opened, ("pieces",)),
    (caring.cared, ("volumes",)),
    (caring.cared_for, ("vault", "rounds")),
    (papers.same_paper, ("vault", "other")),
    (desk.Desk, ("k", "r")),
    (desk.replayed, ("k", "r", "log")),
)

# For each class: the methods that the document lists, with their parameters.
METHODS = {
    blocks.Block: {"row": ()},
    states.State: {
        "names": (),
        "text": ("name",),
        "labels": (),
        "kept": ("label",),
        "pairs": (),
        "edited": ("edit",),
        "grown": ("edits",),
    },
    vaults.Vault: {
        "put": ("name", "content"),
        "append": ("name", "content"),
        "drop": ("name",),
        "rename": ("old", "new"),
        "copy": ("old", "new"),
        "snapshot": ("label",),
        "forget": ("label",),
        "restore": ("label",),
        "wipe": (),
        "working": (),
        "pending": (),
        "abandon": (),
        "commit": (),
        "state": (),
        "writes": (),
        "volumes": (),
        "epoch": (),
        "layout": (),
        "count": (),
        "stripes": (),
        "transactions": (),
        "compact": ("k", "r"),
    },
    opening.Found: {"mended": (), "vault": ()},
    desk.Desk: {"tell": ("line",), "log": ()},
}


def outcome(function, arguments, names):
    """What a call returns, or the class and the attributes of what it raises."""
    try:
        return function(*arguments, **names)
    except errors.VaultError as error:
        return type(error).__name__, vars(error)


def code_of(function):
    """Where the function, or what makes an object of the class, stands."""
    return (function.__init__ if inspect.isclass(function) else function).__code__


# Each function with its parameters.
SIGNATURES = OTHERS + tuple((function, names) for function, names, _ in CALLS)

# Each call by itself: the function, its parameters, the arguments, what comes of it.
CASES = [
    (function, names, arguments, expected) for function, names, calls in CALLS for arguments, expected in calls
]


class BasicsTest(unittest.TestCase):
    def assert_same(self, value, expected, function):
        """Alike also in kind: no list in place of a tuple, no bool in place of an integer."""
        self.assertEqual(value, expected, function)
        self.assertIs(type(value), type(expected), function)
        if isinstance(value, tuple):
            for one, other in zip(value, expected):
                self.assert_same(one, other, function)

    def test_by_position(self):
        for function, _, arguments, expected in CASES:
            self.assert_same(outcome(function, arguments, {}), expected, function)

    def test_by_name(self):
        for function, names, arguments, expected in CASES:
            self.assert_same(outcome(function, (), dict(zip(names, arguments))), expected, function)

    def test_lists_in_place_of_tuples(self):
        for function, _, arguments, expected in CASES:
            self.assert_same(outcome(function, as_lists(arguments), {}), expected, function)

    def test_one_list_beside_tuples(self):
        for function, _, arguments, expected in CASES:
            for at, argument in enumerate(arguments):
                mixed = arguments[:at] + (as_lists(argument),) + arguments[at + 1:]
                self.assert_same(outcome(function, mixed, {}), expected, function)

    def test_arguments_stay_as_they_were(self):
        for function, _, arguments, _ in CASES:
            lists = as_lists(arguments)
            before = copy.deepcopy(lists)
            outcome(function, lists, {})
            self.assertEqual(lists, before, function)

    def test_later_changes_have_no_effect(self):
        for function, _, arguments, expected in CASES:
            lists = as_lists(arguments)
            result = outcome(function, lists, {})
            spoiled(lists)
            self.assert_same(result, expected, function)
            self.assert_same(outcome(function, arguments, {}), expected, function)

    def test_equal_calls_return_equal_results(self):
        for function, _, arguments, expected in CASES + CASES[::-1]:
            self.assert_same(outcome(function, arguments, {}), expected, function)

    def test_all_functions_take_just_these_names(self):
        for function, names in SIGNATURES:
            parameters = inspect.signature(function).parameters.values()
            self.assertEqual(tuple(each.name for each in parameters), names, function)
            self.assertEqual({each.default for each in parameters} - {inspect.Parameter.empty}, set(), function)

    def test_all_functions_are_defined_in_their_module(self):
        for function, _ in SIGNATURES:
            file = code_of(function).co_filename
            self.assertTrue(file.endswith(function.__module__.replace(".", "/") + ".py"), function)

    def test_all_methods_are_defined_in_their_class(self):
        for each, methods in METHODS.items():
            for name, names in methods.items():
                parameters = list(inspect.signature(vars(each)[name]).parameters.values())[1:]
                self.assertEqual(tuple(parameter.name for parameter in parameters), names, (each, name))
                self.assertEqual({parameter.default for parameter in parameters} - {inspect.Parameter.empty}, set())

    def test_classes_are_defined_in_their_module(self):
        for each in METHODS:
            file = code_of(each).co_filename
            self.assertTrue(file.endswith(each.__module__.replace(".", "/") + ".py"), each)

    def test_the_vault_takes_its_layout_by_name(self):
        self.assertEqual(vaults.Vault(k=3, r=1).layout(), (3, 1))
        self.assertEqual(tuple(inspect.signature(vaults.Vault).parameters), ("k", "r"))
