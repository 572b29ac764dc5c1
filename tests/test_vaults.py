"""Promises [22], [23], [24]: vaults."""

import unittest

from mendvault.states import State
from mendvault.vaults import Vault
from mendvault.writing import played
from tests.helper import LAYOUTS, fixed_random, raised, slow_striped, some_text
from tests.model import ModelVault, Refused, model_text

# Words that are no names.
NO_NAMES = ("", "abcdefghi", "A", "1a", "a b", "a\n", "a_")

# Each method that adds an edit, with arguments that are let behind those ahead.
CALLS = (
    ("put", ("a", "one")),
    ("put", ("b", "")),
    ("append", ("a", "\ntwo")),
    ("snapshot", ("s",)),
    ("rename", ("a", "c")),
    ("copy", ("c", "d")),
    ("drop", ("b",)),
    ("snapshot", ("t",)),
    ("wipe", ()),
    ("restore", ("t",)),
    ("forget", ("s",)),
)


def told(vault):
    """All that the methods of a vault tell."""
    state, working = vault.state(), vault.working()
    return (
        vault.pending(), working.pairs(), working.labels(), state.pairs(), state.labels(), vault.writes(),
        vault.volumes(), vault.epoch(), vault.layout(), vault.count(), vault.stripes(), vault.transactions(),
    )


def some_call(random_source, names=4, labels=3):
    """A method's name and arguments, most of them let."""
    word = random_source.choices(
        ("put", "append", "drop", "rename", "copy", "snapshot", "forget", "restore", "wipe"),
        (40, 30, 5, 10, 10, 10, 3, 5, 1),
    )[0]
    name, other = (random_source.choice([f"n{at}" for at in range(names)] + ["No"]) for _ in range(2))
    label = random_source.choice([f"l{at}" for at in range(labels)] + ["9"])
    if word in ("put", "append"):
        return word, (name, some_text(random_source, random_source.choice((0, 1, 10, 100, 400, 401))))
    if word in ("rename", "copy"):
        return word, (name, other)
    return word, {"drop": (name,), "wipe": ()}.get(word, (label,))


def text_edits(number, many):
    """Edits whose transaction with this number has a text of just so many signs."""
    full = [("put", f"f{at}", "x" * 400) for at in range(max(0, many - 100) // 412)]
    for size in range(401):
        for sign in "abcde":
            edits = full + [("put", "rest", sign * size)]
            length = len(f"tx {number} {len(edits)}\n") + 412 * len(full) + len(f"put rest {size}\n{sign * size}\n")
            if length + 14 in (many, many + 1, many + 2) and len(model_text(number, edits)) == many:
                return edits
    raise AssertionError("no such edits")


class VaultTest(unittest.TestCase):
    def setUp(self):
        self.random = fixed_random(22)

    def assert_refused(self, vault, word, arguments, *error):
        """The call raises this error, and changes nothing."""
        before = told(vault)
        self.assertEqual(raised(getattr(vault, word), *arguments), error, (word, arguments))
        self.assertEqual(told(vault), before)


class BeginningTest(VaultTest):
    def test_each_layout(self):
        for k, r in LAYOUTS:
            vault = Vault(k, r)
            self.assertEqual(vault.layout(), (k, r))
            self.assertEqual((vault.epoch(), vault.count(), vault.stripes()), (0, 0, 0))
            self.assertEqual((vault.pending(), vault.writes(), vault.transactions()), ((), (), ()))
            self.assertEqual((vault.state(), vault.working()), (State(), State()))
            self.assertEqual(vault.volumes(), ((),) * (k + r))

    def test_no_layouts(self):
        for k in (0, -1, 7, 10 ** 30):
            for r in (0, 4, -1, 5):
                self.assertEqual(raised(Vault, k, r), ("BadValue", 0))
        for r in (-1, 5, 10 ** 30):
            for k in (1, 6):
                self.assertEqual(raised(Vault, k, r), ("BadValue", 1))


class EditingTest(VaultTest):
    def test_each_method(self):
        vault = Vault(2, 1)
        edits = ()
        for word, arguments in CALLS:
            self.assertIsNone(getattr(vault, word)(*arguments))
            edits += ((word, *arguments),)
            self.assertEqual(vault.pending(), edits)
            self.assertEqual(vault.working(), State().grown(edits))
            self.assertEqual(vault.state(), State())
            self.assertEqual((vault.count(), vault.writes()), (0, ()))
        self.assertEqual(vault.working().pairs(), (("c", "one\ntwo"), ("d", "one\ntwo")))
        self.assertEqual(vault.working().labels(), ("t",))
        self.assertEqual({type(edit) for edit in vault.pending()} | {type(vault.pending())}, {tuple})

    def test_by_name(self):
        vault = Vault(k=2, r=1)
        vault.put(name="a", content="1")
        vault.append(name="a", content="2")
        vault.rename(old="a", new="b")
        vault.copy(old="b", new="c")
        vault.drop(name="b")
        vault.snapshot(label="s")
        vault.restore(label="s")
        vault.forget(label="s")
        self.assertEqual(vault.working().pairs(), (("c", "12"),))
        vault.commit()
        vault.compact(k=1, r=0)
        self.assertEqual(vault.layout(), (1, 0))

    def test_no_names(self):
        vault = Vault(1, 0)
        vault.put("a", "1")
        for word in NO_NAMES:
            for method in ("drop", "snapshot", "forget", "restore"):
                self.assert_refused(vault, method, (word,), "BadName", word)
            for method in ("put", "append"):
                self.assert_refused(vault, method, (word, "x"), "BadName", word)
                self.assert_refused(vault, method, (word, "x" * 401), "BadName", word)
            for method in ("rename", "copy"):
                self.assert_refused(vault, method, (word, "b"), "BadName", word)
                self.assert_refused(vault, method, ("a", word), "BadName", word)
                self.assert_refused(vault, method, ("gone", word), "BadName", word)
                self.assert_refused(vault, method, (word, "Other"), "BadName", word)

    def test_names_of_8_and_9_signs(self):
        vault = Vault(1, 0)
        vault.put("a2345678", "x")
        vault.snapshot("abcdefgh")
        self.assertEqual(vault.working().names(), ("a2345678",))
        self.assert_refused(vault, "put", ("a23456789", "x"), "BadName", "a23456789")
        self.assert_refused(vault, "snapshot", ("abcdefghi",), "BadName", "abcdefghi")

    def test_contents_of_400_signs_and_one_more(self):
        vault = Vault(1, 0)
        vault.put("a", "\n" * 400)
        vault.put("b", "")
        vault.append("b", "x" * 400)
        self.assertEqual(vault.working().pairs(), (("a", "\n" * 400), ("b", "x" * 400)))
        for method in ("put", "append"):
            self.assert_refused(vault, method, ("a", "x" * 401), "NoRoom", "signs")
            self.assert_refused(vault, method, ("gone", "\n" * 401), "NoRoom", "signs")
        self.assert_refused(vault, "append", ("a", "x"), "NoRoom", "signs")

    def test_what_is_not_there(self):
        vault = Vault(1, 0)
        vault.put("a", "1")
        for method, arguments in (("append", ("b", "x")), ("drop", ("b",)), ("rename", ("b", "c")), ("copy", ("b", "c")),
                                  ("rename", ("b", "b")), ("copy", ("b", "b")), ("forget", ("b",)), ("restore", ("b",)),
                                  ("rename", ("b", "a")), ("append", ("b", "x" * 400))):
            self.assert_refused(vault, method, arguments, "NothingThere", "b")
        for method in ("forget", "restore"):
            self.assert_refused(vault, method, ("a",), "NothingThere", "a")

    def test_rename_to_a_name_that_is_there(self):
        vault = Vault(1, 0)
        vault.put("a", "1")
        vault.commit()
        vault.put("b", "2")
        self.assert_refused(vault, "rename", ("a", "b"), "BadName", "b")
        self.assert_refused(vault, "rename", ("b", "a"), "BadName", "a")

    def test_rename_and_copy_to_itself(self):
        vault = Vault(1, 0)
        vault.put("a", "1")
        vault.rename("a", "a")
        vault.copy("a", "a")
        self.assertEqual(vault.pending(), (("put", "a", "1"), ("rename", "a", "a"), ("copy", "a", "a")))
        self.assertEqual(vault.working().pairs(), (("a", "1"),))

    def test_24_names_and_one_more(self):
        vault = Vault(1, 0)
        for at in range(12):
            vault.put(f"n{at}", "x")
        vault.commit()
        for at in range(12, 24):
            vault.put(f"n{at}", "x")
        self.assert_refused(vault, "put", ("more", ""), "NoRoom", "names")
        self.assert_refused(vault, "copy", ("n3", "more"), "NoRoom", "names")
        vault.put("n3", "y")
        vault.rename("n3", "more")
        self.assertEqual(len(vault.working().names()), 24)

    def test_8_snapshots_and_one_more(self):
        vault = Vault(1, 0)
        for at in range(4):
            vault.snapshot(f"l{at}")
        vault.commit()
        for at in range(4, 8):
            vault.snapshot(f"l{at}")
        self.assert_refused(vault, "snapshot", ("more",), "NoRoom", "labels")
        vault.snapshot("l0")
        vault.forget("l0")
        vault.snapshot("more")
        self.assertEqual(len(vault.working().labels()), 8)

    def test_40_edits_and_one_more(self):
        vault = Vault(1, 0)
        for at in range(40):
            vault.put("a", str(at))
        self.assertEqual(len(vault.pending()), 40)
        for method, arguments in (("put", ("b", "")), ("wipe", ()), ("rename", ("a", "a")), ("snapshot", ("s",))):
            self.assert_refused(vault, method, arguments, "NoRoom", "edits")
        # What the points name ahead of it goes ahead.
        self.assert_refused(vault, "put", ("B", ""), "BadName", "B")
        self.assert_refused(vault, "put", ("a", "x" * 401), "NoRoom", "signs")
        self.assert_refused(vault, "drop", ("b",), "NothingThere", "b")
        self.assert_refused(vault, "append", ("a", "x" * 399), "NoRoom", "signs")
        vault.commit()
        vault.wipe()
        self.assertEqual(vault.pending(), (("wipe",),))

    def test_a_text_of_3000_signs_and_one_more(self):
        for number in (0, 9, 10):
            for many in (2999, 3000, 3001):
                vault = Vault(6, 0)
                for _ in range(number):
                    vault.commit()
                *edits, final = text_edits(number, many)
                for edit in edits:
                    vault.put(*edit[1:])
                if many == 3001:
                    self.assert_refused(vault, "put", final[1:], "NoRoom", "edits")
                else:
                    vault.put(*final[1:])
                    self.assertEqual(len(model_text(number, vault.pending())), many)
                    self.assertEqual(vault.commit(), number)

    def test_the_number_counts_among_the_signs(self):
        # Some text of 3,000 signs as number 9 has one sign more as number 10.
        edits = text_edits(9, 3000)
        texts = {}
        for sign in "abcdefghijklmnopqrstuvwxyz":
            edits[0] = ("put", "f0", sign * 400)
            texts[len(model_text(9, edits)), len(model_text(10, edits))] = list(edits)
        vault = Vault(6, 0)
        for _ in range(9):
            vault.commit()
        for edit in texts[3000, 3001]:
            vault.put(*edit[1:])
        vault.abandon()
        vault.commit()
        *edits, final = texts[3000, 3001]
        for edit in edits:
            vault.put(*edit[1:])
        self.assert_refused(vault, "put", final[1:], "NoRoom", "edits")

    def test_abandon(self):
        vault = Vault(2, 1)
        vault.put("a", "1")
        vault.snapshot("s")
        vault.commit()
        vault.put("a", "2")
        vault.forget("s")
        self.assertIsNone(vault.abandon())
        self.assertEqual(vault.pending(), ())
        self.assertEqual(vault.working(), vault.state())
        self.assertEqual(vault.state().pairs(), (("a", "1"),))
        vault.append("a", "3")
        self.assertEqual(vault.working().pairs(), (("a", "13"),))
        vault.abandon()
        vault.abandon()
        self.assertEqual((vault.count(), vault.pending()), (1, ()))

    def test_what_was_told_stays(self):
        vault = Vault(2, 1)
        vault.put("a", "1")
        before = told(vault)
        state, working = vault.state(), vault.working()
        vault.put("b", "2")
        vault.commit()
        vault.put("c", "3")
        self.assertEqual(before[0], (("put", "a", "1"),))
        self.assertEqual((state.names(), working.names()), ((), ("a",)))
        self.assertEqual((before[5], before[6]), ((), ((), (), ())))


class CommitTest(VaultTest):
    def assert_same(self, vault, model):
        """All that the vault tells is what the model has."""
        self.assertEqual(vault.pending(), tuple(model.pending))
        self.assertEqual(vault.state().pairs(), model.state.pairs())
        self.assertEqual({label: dict(vault.state().kept(label)) for label in vault.state().labels()}, model.state.kept)
        self.assertEqual(vault.working().pairs(), model.working().pairs())
        self.assertEqual(vault.writes(), tuple(model.writes))
        self.assertEqual(vault.volumes(), model.volumes())
        self.assertEqual((vault.epoch(), vault.layout()), (model.epoch, (model.k, model.r)))
        self.assertEqual((vault.count(), vault.stripes()), (len(model.transactions), model.stripes))
        self.assertEqual(vault.transactions(), tuple(model.transactions))

    def test_by_hand(self):
        vault = Vault(2, 1)
        vault.put("note", "hello")
        self.assertEqual(vault.commit(), 0)
        rows = slow_striped("tx 0 1\nput note 5\nhello\nend 227801970\n", 2, 1, 0, 0, 0)
        self.assertEqual(vault.writes(), tuple(("block", volume, row) for volume, row in enumerate(rows)))
        self.assertEqual(vault.volumes(), tuple(rows))
        self.assertEqual((vault.count(), vault.stripes(), vault.pending()), (1, 1, ()))
        self.assertEqual(vault.state().pairs(), (("note", "hello"),))
        self.assertEqual(vault.transactions(), ((("put", "note", "hello"),),))

    def test_of_no_edits(self):
        vault = Vault(1, 2)
        self.assertEqual([vault.commit() for _ in range(3)], [0, 1, 2])
        self.assertEqual(vault.transactions(), ((), (), ()))
        self.assertEqual((vault.count(), vault.stripes(), vault.state()), (3, 3, State()))
        rows = [row for number in range(3) for row in slow_striped(model_text(number, ()), 1, 2, 0, number, number)]
        self.assertEqual(vault.writes(), tuple(("block", row[1], row) for row in rows))
        self.assertEqual(vault.volumes(), tuple(sum(rows[volume::3], ()) for volume in range(3)))

    def test_the_next_one_begins_with_the_next_stripe(self):
        vault = Vault(2, 0)
        vault.put("a", "x" * 200)
        vault.commit()
        self.assertEqual(vault.stripes(), 4)
        vault.put("b", "y" * 100)
        vault.commit()
        self.assertEqual(vault.stripes(), 7)
        rows = slow_striped(model_text(1, [("put", "b", "y" * 100)]), 2, 0, 0, 4, 1)
        self.assertEqual(vault.writes()[8:], tuple(("block", row[1], row) for row in rows))

    def test_each_layout(self):
        for k, r in LAYOUTS:
            vault, model = Vault(k, r), ModelVault(k, r)
            for many in (0, 100, 5):
                vault.put("a", "x" * many)
                model.edit("put", "a", "x" * many)
                model.commit()
                vault.commit()
                self.assert_same(vault, model)

    def test_it_does_what_the_model_does(self):
        for k, r in ((1, 0), (2, 1), (3, 2)):
            vault, model = Vault(k, r), ModelVault(k, r)
            for step in range(150):
                word, arguments = some_call(self.random)
                try:
                    model.edit(word, *arguments)
                except Refused as error:
                    self.assert_refused(vault, word, arguments, *error.args)
                    continue
                getattr(vault, word)(*arguments)
                if step % 11 == 10:
                    self.assertEqual(vault.commit(), len(model.transactions))
                    model.commit()
                if step % 50 == 49:
                    vault.abandon()
                    model.pending = []
                self.assert_same(vault, model)

    def test_kinds(self):
        vault = Vault(2, 1)
        vault.put("a", "1")
        self.assertIs(type(vault.commit()), int)
        for result in (vault.writes(), vault.writes()[0], vault.writes()[0][2], vault.volumes(), vault.volumes()[0],
                       vault.layout(), vault.transactions(), vault.transactions()[0], vault.transactions()[0][0]):
            self.assertIs(type(result), tuple)
        for result in (vault.epoch(), vault.count(), vault.stripes()):
            self.assertIs(type(result), int)

    def test_volumes_are_what_is_played(self):
        vault = Vault(3, 1)
        for at in range(5):
            vault.put("a", "x" * 80 * at)
            vault.commit()
        self.assertEqual(vault.volumes(), played(vault.writes(), len(vault.writes()), 0))

    def test_equal_histories_write_alike(self):
        one, other = Vault(3, 2), Vault(3, 2)
        for vault in (one, other):
            vault.put("a", "1")
            vault.commit()
        self.assertEqual(told(one), told(other))
        other.put("b", "2")
        self.assertNotEqual(told(one), told(other))

    def test_the_last_stripe_of_an_epoch(self):
        vault = Vault(1, 0)
        edits = text_edits(999, 2990)
        for _ in range(168):
            for edit in edits:
                vault.put(*edit[1:])
            vault.commit()
        left = 16384 - vault.stripes()
        self.assertEqual(left, 88)
        for edit in text_edits(vault.count(), 31 * left + 1):
            vault.put(*edit[1:])
        self.assert_refused(vault, "commit", (), "NoRoom", "stripes")
        vault.abandon()
        for edit in text_edits(vault.count(), 31 * left):
            vault.put(*edit[1:])
        self.assertEqual(vault.commit(), 168)
        self.assertEqual(vault.stripes(), 16384)
        self.assertEqual(vault.writes()[-1][2][6:8], (127, 127))
        self.assert_refused(vault, "commit", (), "NoRoom", "stripes")

    def test_the_last_transaction_of_an_epoch(self):
        vault = Vault(1, 0)
        for number in range(16383):
            vault.commit()
        vault.put("a", "")
        vault.abandon()
        self.assertEqual(vault.commit(), 16383)
        self.assertEqual((vault.count(), vault.stripes()), (16384, 16384))
        vault.wipe()
        before = vault.volumes()
        self.assertEqual(raised(vault.commit), ("NoRoom", "stripes"))
        self.assertEqual((vault.count(), vault.stripes(), vault.pending()), (16384, 16384, (("wipe",),)))
        self.assertEqual(vault.volumes(), before)
        self.assertEqual(vault.writes()[-1][2][11:13], (127, 127))


# The cases stand in the classes above; the one that they share has none.
del VaultTest
