"""Promise [40]: compaction."""

import unittest

from mendvault.states import State
from mendvault.vaults import Vault
from mendvault.writing import played
from tests.helper import LAYOUTS, fixed_random, raised, slow_striped
from tests.model import ModelVault, Refused, model_text
from tests.test_vaults import some_call, told


def both(k, r):
    """A vault and a model of it, with two transactions."""
    vault, model = Vault(k, r), ModelVault(k, r)
    for edits in ((("put", "a", "x" * 100), ("snapshot", "s")), (("put", "b", "y" * 50), ("rename", "a", "c"))):
        for word, *arguments in edits:
            getattr(vault, word)(*arguments)
            model.edit(word, *arguments)
        vault.commit()
        model.commit()
    return vault, model


class CompactTest(unittest.TestCase):
    def assert_same(self, vault, model):
        self.assertEqual((vault.epoch(), vault.layout()), (model.epoch, (model.k, model.r)))
        self.assertEqual((vault.count(), vault.stripes()), (len(model.transactions), model.stripes))
        self.assertEqual(vault.transactions(), tuple(model.transactions))
        self.assertEqual(vault.writes(), tuple(model.writes))
        self.assertEqual(vault.volumes(), model.volumes())
        self.assertEqual(vault.state().pairs(), model.state.pairs())
        self.assertEqual({label: dict(vault.state().kept(label)) for label in vault.state().labels()}, model.state.kept)
        self.assertEqual((vault.working(), vault.pending()), (vault.state(), ()))
        self.assertEqual(vault.volumes(), played(vault.writes(), len(vault.writes()), 0)
                         + ((),) * (len(vault.volumes()) - len(played(vault.writes(), 0, 0))))

    def assert_refused(self, vault, k, r, *error):
        before = told(vault)
        self.assertEqual(raised(vault.compact, k, r), error)
        self.assertEqual(told(vault), before)

    def test_by_hand(self):
        vault = Vault(1, 1)
        vault.put("a", "1")
        vault.commit()
        elder = vault.writes()
        state = vault.state()
        self.assertIsNone(vault.compact(2, 0))
        base = (("wipe",), ("put", "a", "1"))
        rows = slow_striped(model_text(0, base), 2, 0, 1, 0, 0)
        self.assertEqual(len(rows), 2)
        new = (("block", 0, rows[0]), ("block", 1, rows[1]), ("cut", 0, 48), ("cut", 1, 48))
        self.assertEqual(len(elder), 2)
        self.assertEqual(vault.writes(), elder + new)
        self.assertEqual(vault.volumes(), tuple(rows))
        self.assertEqual((vault.epoch(), vault.layout(), vault.count(), vault.stripes()), (1, (2, 0), 1, 1))
        self.assertEqual(vault.transactions(), (base,))
        self.assertEqual((vault.state(), vault.working(), vault.pending()), (state, state, ()))

    def test_to_each_layout(self):
        for k, r in LAYOUTS:
            vault, model = both(2, 1)
            vault.compact(k, r)
            model.compact(k, r)
            self.assert_same(vault, model)

    def test_from_each_layout(self):
        for k, r in LAYOUTS:
            for new in ((1, 0), (3, 1), (6, 4)):
                vault, model = both(k, r)
                vault.compact(*new)
                model.compact(*new)
                self.assert_same(vault, model)

    def test_to_a_lesser_layout_and_a_greater_one(self):
        vault, _ = both(2, 2)
        lengths = [len(volume) for volume in vault.volumes()]
        vault.compact(1, 1)
        self.assertEqual([write for write in vault.writes() if write[0] == "cut"],
                         [("cut", volume, many) for volume, many in enumerate(lengths)])
        self.assertEqual(len(vault.volumes()), 4)
        self.assertEqual(vault.volumes()[2:], ((), ()))
        many = len(vault.writes())
        lengths = [len(volume) for volume in vault.volumes()]
        vault.compact(4, 2)
        self.assertEqual([write for write in vault.writes()[many:] if write[0] == "cut"],
                         [("cut", 0, lengths[0]), ("cut", 1, lengths[1])])
        self.assertEqual(len(vault.volumes()), 6)
        self.assertNotIn((), vault.volumes())

    def test_of_a_vault_that_has_committed_nothing(self):
        for k, r in ((1, 0), (2, 1), (6, 4)):
            for new in ((1, 0), (2, 1), (6, 4)):
                vault, model = Vault(k, r), ModelVault(k, r)
                vault.compact(*new)
                model.compact(*new)
                self.assert_same(vault, model)
                self.assertEqual([write for write in vault.writes() if write[0] == "cut"], [])
                self.assertEqual(len(vault.volumes()), sum(new))
                self.assertEqual(vault.transactions(), ((("wipe",),),))
                self.assertEqual(vault.state(), State())

    def test_one_behind_another(self):
        vault, model = both(2, 1)
        for k, r in ((3, 1), (1, 0), (1, 0), (6, 4), (2, 2)):
            vault.compact(k, r)
            model.compact(k, r)
            self.assert_same(vault, model)

    def test_commits_behind_it(self):
        vault, model = both(2, 1)
        for k, r in ((3, 2), (1, 1)):
            vault.compact(k, r)
            model.compact(k, r)
            stripes = vault.stripes()
            for number in (1, 2):
                vault.append("b", "z" * 10)
                model.edit("append", "b", "z" * 10)
                self.assertEqual(vault.commit(), number)
                model.commit()
                self.assert_same(vault, model)
            self.assertGreater(vault.stripes(), stripes)

    def test_edits_that_were_let_ahead_of_it_are_let_behind_it(self):
        random_source = fixed_random(40)
        vault, model = Vault(2, 1), ModelVault(2, 1)
        for step in range(300):
            word, arguments = some_call(random_source)
            try:
                model.edit(word, *arguments)
            except Refused as error:
                self.assertEqual(raised(getattr(vault, word), *arguments), error.args)
                continue
            getattr(vault, word)(*arguments)
            if step % 7 == 6:
                vault.commit()
                model.commit()
                if step % 5 == 4:
                    layout = random_source.choice(LAYOUTS)
                    vault.compact(*layout)
                    model.compact(*layout)
                    self.assert_same(vault, model)
            self.assertEqual(vault.working().pairs(), model.working().pairs())
        self.assertGreater(model.epoch, 3)

    def test_a_base_transaction_beyond_the_limits_of_commits(self):
        vault, model = Vault(6, 2), ModelVault(6, 2)
        for at in range(24):
            for target in (vault.put, lambda *arguments: model.edit("put", *arguments)):
                target(f"n{at}", "xyz\n" * 100)
            if at % 3 == 2:
                vault.snapshot(f"l{at // 3}")
                model.edit("snapshot", f"l{at // 3}")
            if at % 4 == 3:
                vault.commit()
                model.commit()
        self.assertEqual((len(vault.state().names()), len(vault.state().labels())), (24, 8))
        vault.compact(5, 1)
        model.compact(5, 1)
        self.assert_same(vault, model)
        self.assertGreater(len(vault.transactions()[0]), 40)
        self.assertGreater(len(model_text(0, vault.transactions()[0])), 50000)

    def test_no_layouts(self):
        vault, _ = both(2, 1)
        for k in (0, -1, 7, 10 ** 30):
            for r in (0, 4, -1, 5):
                self.assert_refused(vault, k, r, "BadValue", 0)
        for r in (-1, 5, 10 ** 30):
            for k in (1, 6):
                self.assert_refused(vault, k, r, "BadValue", 1)

    def test_edits_are_pending(self):
        vault, model = both(2, 1)
        vault.wipe()
        self.assert_refused(vault, 2, 1, "NoRoom", "edits")
        self.assert_refused(vault, 0, 5, "BadValue", 0)
        self.assert_refused(vault, 1, 5, "BadValue", 1)
        vault.abandon()
        vault.compact(2, 1)
        model.compact(2, 1)
        self.assert_same(vault, model)

    def test_the_last_epoch(self):
        vault = Vault(1, 0)
        vault.put("a", "1")
        vault.commit()
        for _ in range(16383):
            vault.compact(1, 0)
        self.assertEqual((vault.epoch(), vault.count()), (16383, 1))
        self.assertEqual(vault.volumes(), (slow_striped(model_text(0, vault.transactions()[0]), 1, 0, 16383, 0, 0)[0]
                                           + slow_striped(model_text(0, vault.transactions()[0]), 1, 0, 16383, 0, 0)[1],))
        before = vault.volumes()
        self.assertEqual(raised(vault.compact, 1, 0), ("NoRoom", "epochs"))
        self.assertEqual(raised(vault.compact, 7, 5), ("BadValue", 0))
        self.assertEqual(raised(vault.compact, 1, 5), ("BadValue", 1))
        self.assertEqual((vault.epoch(), vault.count(), vault.volumes()), (16383, 1, before))
        self.assertEqual(vault.commit(), 1)
        vault.wipe()
        self.assertEqual(raised(vault.compact, 1, 0), ("NoRoom", "edits"))

    def test_each_moment_of_it(self):
        vault, _ = both(2, 1)
        ahead = vault.volumes()
        begin = len(vault.writes())
        vault.compact(1, 1)
        writes = vault.writes()
        new = [write for write in writes[begin:] if write[0] == "block"]
        for many in range(begin, len(writes) + 1):
            done = many - begin
            for part in (0, 1, 20, 47):
                if many == len(writes) and part > 0:
                    continue
                volumes = played(writes, many, part)
                for volume in range(3):
                    behind = sum([row for _, v, row in new[:done] if v == volume], ())
                    torn = sum([row[:part] for _, v, row in new[done:done + 1] if v == volume], ())
                    cut = done - len(new) > volume
                    self.assertEqual(volumes[volume], (() if cut else ahead[volume]) + behind + torn)

    def test_equal_histories_write_alike(self):
        one, other = both(2, 1)[0], both(2, 1)[0]
        one.compact(3, 1)
        other.compact(3, 1)
        self.assertEqual(told(one), told(other))
