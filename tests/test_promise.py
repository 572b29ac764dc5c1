"""Promises [29], [41]: what is told of any vault at any moment, with damage within the bound."""

import unittest

from mendvault.opening import opened
from mendvault.states import State
from mendvault.vaults import Vault
from mendvault.writing import played
from tests.damage import damaged
from tests.helper import LAYOUTS, fixed_random, raised
from tests.test_opening import EDITS, committed
from tests.test_vaults import some_call


def place(row):
    """Where a block has its place: its epoch, its stripe, its volume."""
    return 128 * row[4] + row[5], 128 * row[6] + row[7], row[1]


def some_vault(random_source, k, r, many):
    """A vault with so many transactions."""
    vault = Vault(k, r)
    while vault.count() < many:
        for _ in range(random_source.randrange(14)):
            word, arguments = some_call(random_source)
            raised(getattr(vault, word), *arguments)
        vault.commit()
    return vault


def told_ahead(epoch, layout, transactions, places):
    """How many transactions of an epoch are ahead of the first one that has lost too much, and how many stripes."""
    k, r = layout
    other = Vault(k, r)
    for number, edits in enumerate(transactions):
        begin = other.stripes()
        for word, *arguments in edits:
            getattr(other, word)(*arguments)
        other.commit()
        for stripe in range(begin, other.stripes()):
            if sum((epoch, stripe, volume) in places for volume in range(k + r)) < k:
                return number, begin
    return len(transactions), other.stripes()


class MainPromiseTest(unittest.TestCase):
    def setUp(self):
        self.random = fixed_random(29)

    def assert_tells(self, vault, pieces, untouched):
        """Opening the pieces tells what the promise says of these blocks that are left untouched."""
        found = opened(pieces)
        places = {place(row) for row in untouched}
        k, r = vault.layout()
        count, stripes = told_ahead(0, (k, r), vault.transactions(), places)
        just = committed(k, r, vault.transactions()[:count])
        self.assertEqual(found.epoch, 0 if count else None)
        self.assertEqual(found.layout, (k, r) if count else None)
        self.assertEqual((found.count, found.transactions), (count, vault.transactions()[:count]))
        self.assertEqual((found.state, found.stripes), (just.state(), stripes))
        self.assertEqual(found.missing, tuple((stripe, volume) for stripe in range(stripes) for volume in range(k + r)
                                              if (0, stripe, volume) not in places))
        self.assertEqual(found.parted, ())
        self.assertEqual(found.mended(), just.volumes() if count else ())
        return count

    def test_any_damage_at_any_moment(self):
        counts = []
        for _ in range(250):
            k, r = self.random.choice(LAYOUTS)
            vault = some_vault(self.random, k, r, self.random.randint(1, 8))
            writes = vault.writes()
            many = self.random.choice((len(writes), self.random.randrange(len(writes))))
            part = self.random.randrange(48) if many < len(writes) else 0
            share = self.random.choice((0, 0.02, 0.1, 0.5))
            left = [damaged(self.random, volume, share) for volume in played(writes, many, part)]
            self.random.shuffle(left)
            left = left[self.random.choice((0, 0, min(r, 1), r, r + 1)):]
            counts.append(self.assert_tells(vault, [piece for piece, _ in left], sum([rows for _, rows in left], [])))
        self.assertGreater(len(set(counts)), 5)

    def test_each_moment_without_damage(self):
        for k, r in ((1, 0), (2, 1), (1, 2)):
            vault = committed(k, r)
            writes = vault.writes()
            for many in range(len(writes) + 1):
                for part in (0, 1, 24, 47) if many < len(writes) else (0,):
                    rows = [row for _, _, row in writes[:many]]
                    self.assert_tells(vault, played(writes, many, part), rows)

    def test_whole_volumes_less(self):
        for k, r in LAYOUTS:
            vault = committed(k, r)
            for many in range(r + 2):
                lost = self.random.sample(range(k + r), many)
                pieces = [volume for at, volume in enumerate(vault.volumes()) if at not in lost]
                rows = [row for _, volume, row in vault.writes() if volume not in lost]
                count = self.assert_tells(vault, pieces, rows)
                self.assertEqual(count, 5 if many <= r else 0)

    def test_one_block_of_each_stripe_changed(self):
        vault = committed(2, 1)
        volumes = list(vault.volumes())
        for at in range(vault.stripes()):
            volume = at % 3
            row = volumes[volume]
            volumes[volume] = row[:48 * at + 20] + ((row[48 * at + 20] + 1) % 129,) + row[48 * at + 21:]
        rows = [row for _, volume, row in vault.writes() if place(row)[1] % 3 != volume]
        self.assertEqual(self.assert_tells(vault, volumes, rows), 5)


class CompactionTest(unittest.TestCase):
    """Promise [41]."""

    def setUp(self):
        self.random = fixed_random(41)

    def assert_moment(self, vault, begin, many, part, elder):
        """At this moment the state ahead of the compaction is told, by the elder epoch or the new one."""
        writes = vault.writes()
        found = opened(played(writes, many, part))
        self.assertEqual(found.state, vault.state())
        k = vault.layout()[0]
        done = [place(write[2])[1] for write in writes[begin:many] if write[0] == "block"]
        stripes = 1 + max(place(write[2])[1] for write in writes[begin:] if write[0] == "block")
        if all(done.count(stripe) >= k for stripe in range(stripes)):
            self.assertEqual((found.epoch, found.layout, found.count), (vault.epoch(), vault.layout(), 1))
            self.assertEqual(found.transactions, vault.transactions())
        else:
            self.assertEqual((found.epoch, found.layout, found.count, found.transactions), elder)
        self.assertEqual(found.parted, ())

    def assert_each_moment(self, vault, k, r):
        nothing = vault.count() == 0
        elder = vault.epoch(), vault.layout(), vault.count(), vault.transactions()
        elder = (None, None, 0, ()) if nothing else elder
        begin = len(vault.writes())
        vault.compact(k, r)
        writes = vault.writes()
        for many in range(begin, len(writes) + 1):
            for part in (0, 1, 47, self.random.randrange(48)) if many < len(writes) else (0,):
                self.assert_moment(vault, begin, many, part, elder)

    def test_each_part_of_each_write(self):
        vault = committed(1, 1, EDITS[:1])
        elder = vault.epoch(), vault.layout(), vault.count(), vault.transactions()
        begin = len(vault.writes())
        vault.compact(2, 1)
        for many in range(begin, len(vault.writes())):
            for part in range(48):
                self.assert_moment(vault, begin, many, part, elder)
        self.assert_moment(vault, begin, len(vault.writes()), 0, elder)

    def test_from_layouts_to_layouts(self):
        for old in ((1, 0), (2, 1), (3, 2), (6, 4)):
            for new in ((1, 0), (1, 4), (2, 1), (6, 0)):
                self.assert_each_moment(committed(*old, EDITS[:2]), *new)

    def test_of_a_vault_that_has_committed_nothing(self):
        for new in ((1, 0), (2, 1), (3, 2)):
            self.assert_each_moment(Vault(2, 1), *new)

    def test_one_behind_another(self):
        vault = committed(2, 1, EDITS[:3])
        for new in ((1, 1), (3, 0), (2, 2)):
            self.assert_each_moment(vault, *new)
            vault.append("b", "more")
            vault.commit()

    def test_damage_within_the_bound(self):
        seen = set()
        for _ in range(250):
            old, new = self.random.choice(LAYOUTS), self.random.choice(LAYOUTS)
            vault = some_vault(self.random, *old, self.random.randint(1, 4))
            elder = vault.transactions()
            begin = len(vault.writes())
            vault.compact(*new)
            writes = vault.writes()
            many = self.random.randint(begin, len(writes))
            part = self.random.randrange(48) if many < len(writes) else 0
            share = self.random.choice((0, 0.02, 0.05, 0.2))
            left = [damaged(self.random, volume, share) for volume in played(writes, many, part)]
            places = {place(row) for _, rows in left for row in rows}
            found = opened([piece for piece, _ in left])
            base = 1 + max(place(write[2])[1] for write in writes[begin:] if write[0] == "block")
            k, r = new
            if all(sum((1, stripe, volume) in places for volume in range(k + r)) >= k for stripe in range(base)):
                expected = 1, new, 1, vault.transactions(), base
                state = vault.state()
            else:
                count, stripes = told_ahead(0, old, elder, places)
                expected = (0, old, count, elder[:count], stripes) if count else (None, None, 0, (), 0)
                state = State().grown([edit for edits in elder[:count] for edit in edits])
            self.assertEqual((found.epoch, found.layout, found.count, found.transactions, found.stripes), expected)
            self.assertEqual((found.state, found.parted), (state, ()))
            k, r = found.layout or (0, 0)
            self.assertEqual(found.missing, tuple((s, v) for s in range(found.stripes) for v in range(k + r)
                                                  if (found.epoch, s, v) not in places))
            seen.add((found.epoch, found.count))
        self.assertGreater(len(seen), 4)
