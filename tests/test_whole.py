"""The example of section 1, and what holds over all modules together."""

import unittest

from mendvault.caring import cared
from mendvault.checking import belongs_holds, grown_holds, same_holds
from mendvault.digests import history, state_digest
from mendvault.harms import harmed
from mendvault.indexing import fetched, index_of
from mendvault.opening import opened
from mendvault.papers import belongs_paper, grown_paper, same_paper
from mendvault.vaults import Vault
from mendvault.writing import played
from tests.damage import damaged
from tests.helper import LAYOUTS, fixed_random, raised
from tests.test_opening import committed
from tests.test_promise import place, some_vault, told_ahead
from tests.test_vaults import some_call


class OverviewTest(unittest.TestCase):
    def test_example(self):
        vault = Vault(2, 1)
        vault.put("note", "hello")
        self.assertEqual(vault.commit(), 0)
        volumes = vault.volumes()
        found = opened(volumes[1:])
        self.assertEqual(found.state.text("note"), "hello")
        self.assertIs(found.mended() == volumes, True)

    def test_any_part_that_is_left(self):
        vault = committed(3, 2)
        volumes = vault.volumes()
        for one in range(5):
            for other in range(5):
                left = [volume for at, volume in enumerate(volumes) if at not in (one, other)][::-1]
                found = opened(left)
                self.assertEqual(found.state, vault.state())
                self.assertEqual(found.mended(), volumes)
                self.assertEqual({volume for _, volume in found.missing}, {one, other})


class TogetherTest(unittest.TestCase):
    def setUp(self):
        self.random = fixed_random(1)

    def check_state(self, found, pieces):
        """What is found, what is fetched and what papers tell agree."""
        number = state_digest(found.state)
        k, r = found.layout
        for name, spans in index_of(found.transactions, k):
            content, _ = fetched(pieces, found.epoch, k, r, spans)
            self.assertEqual(belongs_holds(belongs_paper(found.state, name), number), (name, content))
        mended, again = cared(pieces)
        self.assertEqual(mended, found.mended())
        self.assertEqual(again.missing, found.missing)
        paper = same_paper(found.vault(), opened(mended).vault())
        self.assertIs(same_holds(paper, pieces, mended), True)

    def test_histories_with_damage(self):
        counts = set()
        for _ in range(40):
            vault = some_vault(self.random, *self.random.choice(LAYOUTS), self.random.randint(1, 6))
            share = self.random.choice((0.02, 0.1))
            left = [damaged(self.random, volume, share) for volume in vault.volumes()]
            pieces = [piece for piece, _ in left]
            self.random.shuffle(pieces)
            found = opened(pieces)
            places = {place(row) for _, rows in left for row in rows}
            self.assertEqual(found.count, told_ahead(0, vault.layout(), vault.transactions(), places)[0])
            counts.add(found.count)
            # What is found is the beginning of the history, and the paper of what is lacking tells so.
            elder, newer = history(found.transactions), history(vault.transactions())
            paper = grown_paper(vault.transactions(), found.count)
            self.assertEqual(grown_holds(paper, elder[-1], newer[-1]), vault.count() - found.count)
            self.assertEqual(elder, newer[:found.count + 1])
            if found.epoch is not None:
                self.check_state(found, pieces)
        self.assertGreater(len(counts), 3)

    def test_power_gone_again_and_again(self):
        """A vault that is opened behind each loss goes on, through compactions, too, and loses nothing that was read."""
        for _ in range(15):
            vault, states = Vault(2, 1), []
            for _ in range(12):
                ahead = vault.state(), len(vault.writes())
                for _ in range(self.random.randrange(6)):
                    word, arguments = some_call(self.random)
                    raised(getattr(vault, word), *arguments)
                if not vault.pending() and self.random.random() < 0.5:
                    vault.compact(*self.random.choice(((1, 1), (2, 1), (3, 2))))
                else:
                    vault.commit()
                writes = vault.writes()
                many = self.random.randint(ahead[1], len(writes))
                part = self.random.randrange(48) if many < len(writes) else 0
                left = played(writes, many, part)
                found = opened(left)
                if found.epoch is None:
                    self.assertEqual(ahead[1], 0)
                    continue
                self.assertIn(found.state, (ahead[0], vault.state()))
                self.assertEqual(found.parted, ())
                vault = found.vault()
                states.append(found.state)
                self.check_state(found, left)
            self.assertGreater(len(states), 3)

    def test_equal_states_of_unlike_histories(self):
        one = committed(2, 1)
        other = committed(2, 1)
        other.compact(5, 4)
        lost = harmed(other.volumes(), [("lose", volume) for volume in (0, 2, 4, 8)])
        paper = same_paper(one, other)
        self.assertIs(same_holds(paper, one.volumes()[1:], lost), True)
        self.assertIs(same_holds(paper, one.volumes()[1:], harmed(lost, (("lose", 1),))), False)
        self.assertNotEqual(history(one.transactions()), history(other.transactions()))
        self.assertEqual(opened(lost).state, one.state())
