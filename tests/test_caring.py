"""Promise [42]: care."""

import unittest

from mendvault.caring import cared, cared_for
from mendvault.harms import harmed
from mendvault.opening import Found, opened
from mendvault.vaults import Vault
from tests.damage import changed
from tests.helper import as_lists, fixed_random, noise, raised
from tests.model_opening import told_by
from tests.test_opening import EDITS, committed
from tests.test_promise import some_vault


class CaredTest(unittest.TestCase):
    def setUp(self):
        self.random = fixed_random(42)

    def test_volumes_that_are_whole(self):
        for k, r in ((1, 0), (2, 1), (6, 4)):
            volumes = committed(k, r).volumes()
            result = cared(volumes)
            self.assertIs(type(result), tuple)
            mended, found = result
            self.assertEqual(mended, volumes)
            self.assertIs(type(found), Found)
            self.assertEqual(told_by(found), told_by(opened(volumes)))

    def test_volumes_that_are_harmed(self):
        volumes = committed(2, 2).volumes()
        pieces = harmed(volumes, (("lose", 1), ("change", 0, 20, (1, 2)), ("turn", 2, 3), ("double", 0)))
        for each in (pieces, as_lists(pieces)):
            mended, found = cared(each)
            self.assertEqual(mended, volumes)
            self.assertEqual(told_by(found), told_by(opened(pieces)))
            self.assertGreater(len(found.missing), 0)

    def test_what_is_mended_ends_ahead_of_what_is_lost(self):
        vault = committed(1, 0)
        volumes = vault.volumes()
        mended, found = cared((volumes[0][:-1],))
        self.assertEqual(found.count, 4)
        self.assertEqual(mended, committed(1, 0, EDITS[:4]).volumes())

    def test_where_nothing_is_read_the_volumes_stay(self):
        for volumes in ((), ((),), ((), (1, 2, 128), ()), (noise(self.random, 100),), committed(3, 0).volumes()[1:]):
            for each in (volumes, as_lists(volumes), list(volumes)):
                result, found = cared(each)
                self.assertEqual(result, volumes)
                self.assertEqual({type(volume) for volume in result} | {type(result)}, {tuple})
                self.assertIsNone(found.epoch)

    def test_a_list_that_is_changed_later(self):
        volumes = [[1, 2, 3]]
        result, _ = cared(volumes)
        volumes[0][0] = 9
        self.assertEqual(result, ((1, 2, 3),))

    def test_by_name(self):
        self.assertEqual(cared(volumes=())[0], ())
        self.assertEqual(cared_for(vault=Vault(1, 0), rounds=()), ())


class CaredForTest(unittest.TestCase):
    def setUp(self):
        self.random = fixed_random(242)

    def some_round(self, vault):
        """Harms that are damage within the bound of each volume; no stripe loses more than r blocks."""
        k, r = vault.layout()
        many = vault.stripes()
        while True:
            harms, touched = [], set()
            for volume in self.random.sample(range(k + r), self.random.randint(0, r)):
                harms.append(("lose", volume))
                touched |= {(stripe, volume) for stripe in range(many)}
            for volume in range(k + r):
                if (0, volume) not in touched:
                    dealt, stripes = self.harms_of(volume, vault.volumes()[volume])
                    harms += dealt
                    touched |= {(stripe, volume) for stripe in stripes}
            if max([stripe for stripe, _ in touched].count(stripe) for stripe in range(many)) <= r:
                turned = [("turn", *self.random.choices(range(k + r), k=2)) for _ in range(self.random.randrange(3))]
                return harms + turned + [("double", 0)] * self.random.randrange(2)

    def harms_of(self, volume, row):
        """Harms within the bound of one volume, from its end on; the stripes of which they touch the block."""
        harms, touched, at = [], [], len(row) // 48
        share = self.random.choice((0, 0.05, 0.3))
        while at > 0:
            if self.random.random() > share:
                at -= 1
                continue
            many = self.random.randint(1, min(3, at))
            begin = 48 * (at - many)
            kind = self.random.choice(("change", "begin", "end", "within"))
            if kind in ("change", "within"):
                many, begin = 1, 48 * (at - 1)
            if kind == "change":
                place = begin + self.random.randrange(45)
                integers = changed(self.random, row[place:place + 4])
                harms.append(("change", volume, place, integers))
            elif kind == "within":
                harms.append(("cut", volume, *(begin + each for each in sorted(self.random.sample(range(49), 2)))))
            elif kind == "begin":
                harms.append(("cut", volume, begin, self.random.randint(48 * at - 47, 48 * at)))
            else:
                harms.append(("cut", volume, self.random.randrange(begin, begin + 48), 48 * at))
            touched += range(at - many, at)
            at -= many + 1
        return harms, touched

    def test_rounds_within_the_bound(self):
        missing = set()
        for _ in range(40):
            k, r = self.random.choice(((1, 1), (2, 1), (2, 2), (3, 2), (6, 4), (2, 0)))
            vault = some_vault(self.random, k, r, self.random.randint(1, 5))
            rounds = [self.some_round(vault) for _ in range(4)]
            result = cared_for(vault, rounds)
            self.assertEqual(len(result), 4)
            for found in result:
                self.assertEqual(found.state, vault.state())
                self.assertEqual((found.epoch, found.count, found.parted), (0, vault.count(), ()))
                missing.add(len(found.missing))
            self.assertEqual(result[-1].mended(), vault.volumes())
        self.assertGreater(len(missing), 5)

    def test_no_rounds(self):
        for rounds in ((), []):
            self.assertEqual(cared_for(committed(2, 1), rounds), ())

    def test_rounds_without_harms(self):
        vault = committed(2, 1)
        result = cared_for(vault, ((), [], ()))
        self.assertIs(type(result), tuple)
        self.assertEqual([told_by(found) for found in result], [told_by(opened(vault.volumes()))] * 3)

    def test_each_round_begins_with_what_was_mended(self):
        vault = committed(2, 1)
        rounds = ((("lose", 0),), (("lose", 1),), (("lose", 2),), (("turn", 0, 2), ("cut", 1, 0, 48), ("double", 0)))
        result = cared_for(vault, rounds)
        self.assertEqual([found.state == vault.state() for found in result], [True] * 4)
        for volume in range(3):
            self.assertEqual(result[volume].missing, tuple((stripe, volume) for stripe in range(vault.stripes())))
        self.assertEqual(result[3].missing, ((0, 1),))
        self.assertEqual(len(result[3].gaps), 4)
        self.assertEqual(result[3].mended(), vault.volumes())

    def test_what_was_lost_for_good_stays_lost(self):
        vault = committed(1, 1)
        many = len(vault.volumes()[0])
        rounds = ((("cut", 0, many - 48, many), ("cut", 1, many - 48, many)), (), (("lose", 0), ("lose", 1)), ())
        result = cared_for(vault, rounds)
        self.assertEqual([found.count for found in result], [4, 4, 0, 0])
        self.assertEqual([found.epoch for found in result], [0, 0, None, None])

    def test_volumes_of_which_nothing_is_read_stay(self):
        # What is doubled stays doubled where nothing is mended.
        result = cared_for(Vault(1, 1), ((("double", 0),), (("double", 2),), ()))
        self.assertEqual([len(found.gaps) for found in result], [3, 4, 4])

    def test_harms_that_are_none(self):
        vault = committed(2, 1)
        for rounds, at in (
            (((("lose", 3),),), 0),
            (((), (("lose", 0), ("cut", 0, 2, 1))), 1),
            # The doubled volume is not there any more in the next round.
            (((("double", 0), ("lose", 3)), (("lose", 0), ("lose", 1), ("lose", 3))), 2),
        ):
            before = vault.volumes()
            self.assertEqual(raised(cared_for, vault, rounds), ("BadValue", at))
            self.assertEqual(vault.volumes(), before)

    def test_the_vault_stays_as_it_is(self):
        vault = committed(2, 1)
        vault.put("z", "pending")
        before = vault.volumes(), vault.writes(), vault.pending()
        cared_for(vault, [[["lose", 0]], [["change", 1, 3, [5]]]])
        self.assertEqual((vault.volumes(), vault.writes(), vault.pending()), before)

    def test_a_vault_that_was_compacted(self):
        vault = committed(2, 1)
        vault.compact(1, 1)
        result = cared_for(vault, ((("lose", 0),), (("lose", 1),)))
        self.assertEqual([(found.epoch, found.state) for found in result], [(1, vault.state())] * 2)
        self.assertEqual(result[-1].mended(), vault.volumes()[:2])
