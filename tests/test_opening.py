"""Promises [26], [27], [28], [30]: opening."""

import unittest

from mendvault.opening import Found, opened
from mendvault.states import State
from mendvault.vaults import Vault
from mendvault.writing import played
from tests.helper import LAYOUTS, altered, as_lists, fixed_random, noise, raised, slow_striped, slow_sum, spread
from tests.model import model_text
from tests.model_opening import model_opened, told_by
from tests.test_vaults import some_call, told

# What opening tells where no transaction is read.
NOTHING = {
    "epoch": None, "layout": None, "count": 0, "transactions": (), "state": ({}, {}),
    "stripes": 0, "missing": (), "beyond": (), "parted": (), "gaps": (),
}

# Edits that are let one behind the other, for a transaction each.
EDITS = (
    (("put", "a", "one\ntwo"), ("snapshot", "s")),
    (("put", "b", "x" * 200), ("append", "a", "")),
    (),
    (("rename", "b", "c"), ("copy", "a", "d"), ("drop", "a")),
    (("append", "c", "y" * 130), ("snapshot", "t"), ("forget", "s")),
)


def committed(k, r, transactions=EDITS):
    """A vault that has committed these."""
    vault = Vault(k, r)
    for edits in transactions:
        for word, *arguments in edits:
            getattr(vault, word)(*arguments)
        vault.commit()
    return vault


def written(k, r, transactions, epoch=0):
    """The rows of the blocks that have the texts of these, as they come from the document."""
    rows, stripe = [], 0
    for number, edits in enumerate(transactions):
        rows += slow_striped(model_text(number, edits), k, r, epoch, stripe, number)
        stripe = 1 + max(row[6] * 128 + row[7] for row in rows)
    return rows


def as_pieces(rows):
    """The rows as one piece, if there are some."""
    return [sum(rows, ())]


class OpeningTest(unittest.TestCase):
    def setUp(self):
        self.random = fixed_random(26)

    def assert_tells(self, pieces, **expected):
        """Opening the pieces tells just this, and what the model tells."""
        found = opened(pieces)
        self.assertEqual(told_by(found), model_opened(pieces))
        for name, value in expected.items():
            self.assertEqual(told_by(found)[name], value, name)
        return found

    def assert_reads(self, rows, count):
        """Of the rows of blocks so many transactions are read."""
        return self.assert_tells(as_pieces(rows), count=count, epoch=None if count == 0 else 0)


class NothingTest(OpeningTest):
    def test_no_pieces(self):
        for pieces in ((), []):
            self.assert_tells(pieces, **NOTHING)

    def test_pieces_without_integers(self):
        self.assert_tells(((), [], ()), **{**NOTHING, "gaps": ((), (), ())})

    def test_noise_alone(self):
        pieces = [noise(self.random, many) for many in (1, 47, 48, 49, 300)]
        gaps = tuple(((0, len(piece)),) for piece in pieces)
        self.assert_tells(pieces, **{**NOTHING, "gaps": gaps})

    def test_too_few_blocks(self):
        rows = written(3, 1, EDITS[:1])
        found = self.assert_tells(as_pieces(rows[1:3]), **{**NOTHING, "beyond": ((0, 0, 2),), "gaps": ((),)})
        self.assertEqual((found.mended(), raised(found.vault)), ((), ("Beyond", "lost")))

    def test_of_nothing_nothing_is_mended(self):
        found = opened(())
        self.assertEqual(found.mended(), ())
        self.assertEqual(raised(found.vault), ("Beyond", "lost"))
        self.assertEqual(told_by(opened(found.mended())), NOTHING)

    def test_a_vault_that_has_committed_nothing(self):
        self.assert_tells(Vault(2, 1).volumes(), **{**NOTHING, "gaps": ((), (), ())})


class WholeTest(OpeningTest):
    def test_by_hand(self):
        text = "tx 0 1\nput note 5\nhello\nend 227801970\n"
        rows = slow_striped(text, 2, 1, 0, 0, 0)
        found = self.assert_tells(
            (rows[2], (1, 2) + rows[0] + (3,)),
            epoch=0, layout=(2, 1), count=1, transactions=((("put", "note", "hello"),),),
            state=({"note": "hello"}, {}), stripes=1, missing=((0, 1),), beyond=(), parted=(), gaps=((), ((0, 2), (50, 51))),
        )
        self.assertEqual(found.mended(), tuple(rows))

    def test_each_layout(self):
        for k, r in LAYOUTS:
            vault = committed(k, r)
            found = self.assert_tells(
                vault.volumes(), epoch=0, layout=(k, r), count=5, transactions=EDITS, stripes=vault.stripes(),
                missing=(), beyond=(), parted=(), gaps=((),) * (k + r),
            )
            self.assertEqual(found.state, vault.state())
            self.assertEqual(found.mended(), vault.volumes())

    def test_kinds(self):
        rows = written(2, 1, EDITS[:1])
        other = written(2, 1, [[("put", "z", "")]] * 3)[3:]
        found = opened([rows[0] + (5,), rows[1] + other[0] + altered(other[0], used=31)])
        self.assertIs(type(found), Found)
        self.assertEqual((found.missing[0], found.beyond, found.parted), ((0, 2), ((0, 1, 2),), ((0, 1),)))
        for name in ("layout", "transactions", "missing", "beyond", "parted", "gaps"):
            self.assertIs(type(getattr(found, name)), tuple)
        for each in (found.transactions[0], found.transactions[0][0], found.missing[0], found.beyond[0], found.parted[0],
                     found.gaps[0], found.gaps[0][0], found.mended(), found.mended()[0]):
            self.assertIs(type(each), tuple)
        for name in ("epoch", "count", "stripes"):
            self.assertIs(type(getattr(found, name)), int)
        self.assertIs(type(found.state), State)
        self.assertIs(type(found.vault()), Vault)

    def test_lists(self):
        vault = committed(2, 1)
        pieces = as_lists(vault.volumes())[1:] + [[7]]
        found = opened(pieces)
        before = told_by(found)
        self.assertEqual(before["gaps"], ((), (), ((0, 1),)))
        self.assertEqual(pieces, as_lists(vault.volumes())[1:] + [[7]])
        pieces[0][3] = 99
        pieces.append([])
        self.assertEqual(told_by(found), before)
        self.assertEqual(found.mended(), vault.volumes())

    def test_by_name(self):
        self.assertEqual(told_by(opened(pieces=())), NOTHING)

    def test_a_block_that_stands_twice(self):
        rows = written(2, 1, EDITS[:2])
        expected = {**told_by(opened(as_pieces(rows))), "gaps": ()}
        for pieces in ([sum(rows, ()) * 2], [sum(rows, rows[3])], [rows[0], sum(rows, ())], [row for row in rows * 2]):
            self.assertEqual({**told_by(self.assert_tells(pieces)), "gaps": ()}, expected)
        self.assert_tells([rows[0] * 2, rows[0]], count=0, beyond=((0, 0, 1),), parted=())

    def test_the_sequence_of_pieces_tells_nothing(self):
        volumes = list(committed(3, 2).volumes())
        expected = {**told_by(opened(volumes)), "gaps": ()}
        for _ in range(10):
            self.random.shuffle(volumes)
            cut = self.random.randrange(6)
            for pieces in (volumes, [sum(volumes, ())], [sum(volumes[:cut], ()), sum(volumes[cut:], ())]):
                self.assertEqual({**told_by(self.assert_tells(pieces)), "gaps": ()}, expected)

    def test_blocks_in_any_sequence(self):
        rows = written(2, 1, EDITS)
        expected = told_by(opened(as_pieces(rows)))
        for _ in range(10):
            self.random.shuffle(rows)
            self.assertEqual(told_by(self.assert_tells(as_pieces(rows))), expected)


class LossTest(OpeningTest):
    def test_a_stripe_that_lost_just_r_blocks_and_one_more(self):
        for k, r in ((1, 0), (1, 4), (2, 1), (3, 2), (6, 4)):
            rows = written(k, r, EDITS)
            second = [row for row in rows if row[11:13] == (0, 1)]
            lost = self.random.sample(second[:k + r], r + 1)
            missing = tuple((row[7], row[1]) for row in rows if row in lost[1:])
            self.assert_tells(as_pieces([row for row in rows if row not in lost[1:]]), count=5, missing=missing)
            left = [row for row in rows if row not in lost]
            many = [row[7] for row in left]
            beyond = tuple((0, stripe, many.count(stripe)) for stripe in sorted(set(many)) if stripe >= second[0][7])
            self.assert_tells(as_pieces(left), count=1, missing=(), beyond=beyond, parted=())

    def test_each_transaction_lost(self):
        rows = written(2, 0, EDITS)
        for lost in range(5):
            left = [row for row in rows if row[12] != lost]
            found = self.assert_reads(left, lost)
            self.assertEqual(found.transactions, EDITS[:lost])
            self.assertEqual(found.state, State().grown([edit for edits in EDITS[:lost] for edit in edits]))
            self.assertEqual(found.mended(), spread(written(2, 0, EDITS[:lost])) if lost else ())
            self.assertEqual({stripe for _, stripe, _ in found.beyond},
                             {row[7] for row in left if row[12] > lost})

    def test_each_stripe_lost(self):
        rows = written(1, 1, EDITS)
        for stripe in range(rows[-1][7] + 1):
            left = [row for row in rows if row[7] != stripe]
            self.assert_reads(left, [row[12] for row in rows if row[7] == stripe][0])

    def test_a_torn_block_at_the_end(self):
        vault = committed(2, 1)
        writes = vault.writes()
        for part in range(48):
            found = self.assert_tells(played(writes, len(writes) - 1, part), count=5, missing=((vault.stripes() - 1, 2),))
            self.assertEqual(found.gaps[2], ((len(vault.volumes()[2]) - 48, len(vault.volumes()[2]) - 48 + part),) * (part > 0))
            self.assert_tells(played(writes, len(writes) - 2, part), count=4)

    def test_gaps_of_each_piece(self):
        rows = written(2, 1, EDITS[:1])
        pieces = [(1, 2) + rows[0] + (3,) + rows[1], (), (128,) * 5, rows[2][:20] + rows[2], rows[2] + rows[2][20:]]
        self.assert_tells(pieces, gaps=(((0, 2), (50, 51)), (), ((0, 5),), ((0, 20),), ((48, 76),)))


class AmissTest(OpeningTest):
    def test_stripes_of_two_histories_with_one_number(self):
        one = written(2, 1, EDITS)
        other = written(2, 1, EDITS[:1] + ((("put", "b", "z" * 200),),))
        stripe = len(written(2, 1, EDITS[:1])) // 3
        found = self.assert_tells(as_pieces(one + other), count=1)
        self.assertEqual(found.parted[0], (0, stripe))
        self.assertEqual(found.beyond[0], (0, stripe, len({row for row in one + other if row[7] == stripe})))
        # Where just one of the two is left it is read.
        self.assert_reads(one[:stripe * 3] + one[stripe * 3:] + other[:stripe * 3], 5)

    def test_unlike_blocks_of_one_volume(self):
        rows = written(1, 2, EDITS[:2])
        for values in ({"last": 1}, {"used": 30}, {"number": 7}, {"r": 3}, {"payload": (65,) * 31}):
            self.assert_tells(as_pieces(rows + [altered(rows[0], **values)]), count=0, parted=((0, 0),),
                              beyond=tuple((0, stripe, 4 if stripe == 0 else 3) for stripe in range(rows[-1][7] + 1)))

    def test_unlike_heads_in_one_stripe(self):
        rows = written(2, 1, EDITS[:1])
        for values in ({"last": 0}, {"used": 30}, {"number": 1}, {"r": 2}):
            for left in (rows[:1], rows[:2]):
                # Also where there are too few of them.
                self.assert_tells(as_pieces(left + [altered(rows[2], **values)]), count=0, parted=((0, 0),))

    def test_payloads_that_are_of_no_word(self):
        rows = written(2, 1, EDITS)
        wrong = altered(rows[2], payload=rows[2][13:43] + (rows[2][43] ^ 1,))
        self.assert_tells(as_pieces(rows[:2] + [wrong] + rows[3:]), count=0, parted=((0, 0),))
        # k of them are of a word: here one that has no text.
        self.assert_tells(as_pieces([rows[0], altered(rows[2], payload=(0,) * 31)] + rows[3:]), count=0, parted=((0, 0),))

    def test_a_stripe_of_another_layout(self):
        for k, r in ((2, 0), (2, 2), (1, 1), (3, 1)):
            one = written(2, 1, EDITS)
            begin = one[-1][7] + 1
            text = model_text(5, [("put", "z", "")])
            self.assert_reads(one + slow_striped(text, 2, 1, 0, begin, 5), 6)
            found = self.assert_reads(one + slow_striped(text, k, r, 0, begin, 5), 5)
            self.assertEqual(found.layout, (2, 1))
            self.assertEqual({place[1] for place in found.beyond}, {begin + at for at in range(len(found.beyond))})
            self.assertEqual(found.parted, ())

    def test_a_stripe_of_another_layout_within_a_transaction(self):
        text = model_text(0, [("put", "a", "x" * 100)])
        first = [altered(row, last=0) for row in slow_striped(text[:62], 2, 1, 0, 0, 0)]
        for k, r, count in ((2, 1, 1), (2, 0, 0), (3, 1, 0)):
            self.assert_reads(first + slow_striped(text[62:], k, r, 0, 1, 0), count)

    def test_a_number_that_is_wrong(self):
        rows = written(2, 1, EDITS[:1])
        begin = rows[-1][7] + 1
        for told, of_blocks in ((1, 0), (0, 1), (1, 2), (2, 1), (2, 2), (0, 0), (10, 1), (1, 1)):
            text = model_text(told, EDITS[1])
            found = self.assert_reads(rows + slow_striped(text, 2, 1, 0, begin, of_blocks), 2 if told == of_blocks == 1 else 1)
            self.assertEqual(found.parted, ())

    def test_the_first_number_is_wrong(self):
        for number in (1, 2, 16383):
            self.assert_reads(slow_striped(model_text(number, EDITS[0]), 2, 1, 0, 0, number), 0)
            self.assert_reads(slow_striped(model_text(number, EDITS[0]), 2, 1, 0, 0, 0), 0)
            self.assert_reads(slow_striped(model_text(0, EDITS[0]), 2, 1, 0, 0, number), 0)

    def test_a_number_that_is_wrong_in_one_stripe_of_several(self):
        text = model_text(0, [("put", "a", "x" * 100)])
        rows = slow_striped(text, 1, 1, 0, 0, 0)
        for stripe in range(5):
            left = [altered(row, number=1) if row[7] == stripe else row for row in rows]
            self.assert_reads(left, 0)

    def test_a_count_or_a_sum_or_a_form_that_is_wrong(self):
        rows = written(2, 1, EDITS[:1])
        begin = rows[-1][7] + 1
        good = model_text(1, [("put", "b", "1")])
        self.assertEqual(good, f"tx 1 1\nput b 1\n1\nend {slow_sum(good[:good.index('end')].encode())}\n")
        bodies = ["tx 1 2\nput b 1\n1\n", "tx 1 0\nput b 1\n1\n", "tx 1 01\nput b 1\n1\n", "tx 1 1\nput b 2\n1\n",
                  "tx 1 1\nput B 1\n1\n", "tx 1 1\nmove a b\n", "tx 1 1\nput b 01\n1\n", "tx 01 1\nput b 1\n1\n", ""]
        texts = [f"{body}end {slow_sum(body.encode())}\n" for body in bodies]
        texts += [good[:-2] + chr(ord(good[-2]) ^ 1) + "\n", good[:-1], good + " ", good + good, good[1:], "x"]
        for text in texts:
            found = self.assert_reads(rows + slow_striped(text, 2, 1, 0, begin, 1), 1)
            self.assertEqual(len(found.beyond), 1 + (len(text) - 1) // 62)
        self.assert_reads(rows + slow_striped(good, 2, 1, 0, begin, 1), 2)

    def test_edits_that_are_not_let(self):
        begin = written(2, 1, EDITS[:1])[-1][7] + 1
        for edits in (
            [("drop", "b")], [("append", "b", "")], [("rename", "b", "c")], [("copy", "b", "a")], [("restore", "t")],
            [("forget", "t")], [("put", "b", ""), ("rename", "a", "b")], [("append", "a", "x" * 394)],
            [("put", f"n{at}", "") for at in range(24)], [("snapshot", f"l{at}") for at in range(8)],
            [("put", "b", "")] * 50 + [("drop", "c")],
        ):
            text = model_text(1, edits)
            rows = written(2, 1, EDITS[:1])
            found = self.assert_reads(rows + slow_striped(text, 2, 1, 0, begin, 1), 1)
            # Nothing of it is done.
            self.assertEqual(found.state, State().grown(EDITS[0]))
            self.assertEqual(found.transactions, EDITS[:1])
            # Nothing behind it is read.
            behind = begin + (len(text) + 61) // 62
            rows += slow_striped(text, 2, 1, 0, begin, 1) + slow_striped(model_text(2, ()), 2, 1, 0, behind, 2)
            self.assert_reads(rows, 1)

    def test_edits_that_are_let_beyond_the_limits_of_commits(self):
        for edits in ([("put", "b", "x")] * 41, [("put", "b", "x" * 400)] * 8):
            found = self.assert_reads(written(2, 1, [edits]), 1)
            self.assertEqual(found.transactions, (tuple(edits),))
            self.assertEqual(found.mended(), spread(written(2, 1, [edits])))
            self.assertEqual(found.vault().volumes(), found.mended())

    def test_the_last_stripe_lacks(self):
        text = model_text(0, EDITS[0])
        rows = [altered(row, last=0) for row in slow_striped(text, 2, 1, 0, 0, 0)]
        self.assert_reads(rows, 0)
        behind = slow_striped(model_text(1, ()), 2, 1, 0, rows[-1][7] + 1, 1)
        self.assert_reads(rows + behind, 0)

    def test_the_last_stripe_of_all_is_no_last_one(self):
        row = altered(slow_striped("tx 0 0\n", 1, 0, 0, 16383, 0)[0], last=0)
        self.assert_tells([row], epoch=None, beyond=((0, 16383, 1),))

    def test_stripes_ahead_of_the_end_that_are_not_full(self):
        text = model_text(0, EDITS[0])
        rows = []
        for stripe, begin in enumerate(range(0, len(text), 10)):
            part = slow_striped(text[begin:begin + 10], 2, 1, 0, stripe, 0)
            rows += [altered(row, last=1 if begin + 10 >= len(text) else 0) for row in part]
        found = self.assert_reads(rows, 1)
        self.assertEqual(found.stripes, (len(text) + 9) // 10)
        # What is mended has full stripes.
        self.assertEqual(found.mended(), spread(written(2, 1, EDITS[:1])))
        self.assertEqual(found.vault().stripes(), (len(text) + 61) // 62)
        self.assertLess(found.vault().stripes(), found.stripes)
        again = self.assert_tells(found.mended(), stripes=(len(text) + 61) // 62)
        self.assertEqual((again.transactions, again.state), (found.transactions, found.state))

    def test_an_empty_stripe_behind_the_last_transaction(self):
        rows = written(2, 1, EDITS)
        row = altered(rows[0], stripe=rows[-1][7] + 1, number=5)
        self.assert_tells(as_pieces(rows + [row]), count=5, beyond=((0, rows[-1][7] + 1, 1),), parted=())


class EpochsTest(OpeningTest):
    def test_the_greatest_one_of_which_something_is_read(self):
        one, two, three = (written(2, 1, EDITS[:many], epoch) for many, epoch in ((5, 3), (2, 130), (1, 16383)))
        many = {id(rows): rows[-1][7] + 1 for rows in (one, two, three)}
        for rows, epoch, count in ((one, 3, 5), (one + two, 130, 2), (three + one + two, 16383, 1), (three + one, 16383, 1)):
            found = self.assert_tells(as_pieces(rows), epoch=epoch, count=count)
            self.assertEqual(len(found.beyond), sum(many[id(each)] for each in (one, two, three)
                                                    if set(each) <= set(rows)) - found.stripes)

    def test_one_of_which_nothing_is_read_does_not_go_ahead(self):
        elder = written(2, 1, EDITS, 4)
        for newer in (written(2, 1, EDITS, 5)[3:], written(2, 1, EDITS, 5)[:1], slow_striped("no", 2, 1, 5, 0, 0)):
            found = self.assert_tells(as_pieces(elder + newer), epoch=4, count=5, missing=())
            self.assertEqual({place[0] for place in found.beyond}, {5})

    def test_beyond_and_parted_of_all_epochs(self):
        elder, newer = written(1, 1, EDITS[:2], 0), written(1, 1, EDITS[:1], 1)
        wrong = [altered(elder[0], payload=(70,) * 31), altered(newer[0], stripe=9), altered(newer[1], stripe=9, used=1)]
        self.assert_tells(
            as_pieces(elder + newer + wrong), epoch=1, count=1, parted=((0, 0), (1, 9)),
            beyond=((0, 0, 3),) + tuple((0, stripe, 2) for stripe in range(1, elder[-1][7] + 1)) + ((1, 9, 2),),
        )

    def test_missing_is_of_the_epoch_that_is_told(self):
        elder, newer = written(1, 1, EDITS[:2], 0), written(1, 2, EDITS[:1], 1)
        self.assert_tells(as_pieces(elder[1:] + newer[1:-1]), epoch=1, missing=((0, 0), (newer[-1][7], 2)))

    def test_mended_begins_with_the_epoch(self):
        found = opened(as_pieces(written(2, 1, EDITS, 0) + written(3, 2, EDITS, 77)))
        self.assertEqual(found.mended(), spread(written(3, 2, EDITS, 77)))
        self.assertEqual(len(found.mended()), 5)


class VaultTest(OpeningTest):
    def test_it_goes_on_as_the_one_that_wrote(self):
        for k, r in ((1, 0), (2, 1), (3, 2), (6, 4)):
            vault = committed(k, r)
            found = opened(vault.volumes()[r:])
            other = found.vault()
            self.assertEqual(told(other), told(vault))
            for each in (vault, other):
                each.put("new", "x" * 50)
                each.commit()
                each.snapshot("s")
                each.commit()
                each.compact(2, 2)
                each.append("new", "y")
                each.commit()
            self.assertEqual(told(other), told(vault))

    def test_behind_a_compaction(self):
        vault = committed(2, 1)
        vault.compact(1, 1)
        vault.put("z", "z")
        vault.commit()
        other = opened(vault.volumes()).vault()
        self.assertEqual(other.writes(), tuple(("block", row[1], row) for row in written(1, 1, vault.transactions(), 1)))
        self.assertEqual((other.epoch(), other.layout(), other.count(), other.stripes(), other.transactions()),
                         (1, (1, 1), 2, vault.stripes(), vault.transactions()))
        self.assertEqual((other.state(), other.working(), other.pending()), (vault.state(), vault.state(), ()))
        self.assertEqual(other.volumes(), vault.volumes()[:2])
        many = len(vault.writes()), len(other.writes())
        for each in (vault, other):
            each.put("y", "y")
            self.assertEqual(each.commit(), 2)
            each.compact(3, 0)
            self.assertEqual(each.epoch(), 2)
        self.assertEqual(vault.writes()[many[0]:], other.writes()[many[1]:])

    def test_pending_edits_are_those_behind_the_last_commit(self):
        vault = committed(2, 1)
        vault.put("z", "z")
        other = opened(vault.volumes()).vault()
        self.assertEqual((other.pending(), other.working()), ((), vault.state()))
        other.put("y", "y")
        other.abandon()
        self.assertEqual(other.working(), vault.state())

    def test_each_call_makes_another_one(self):
        found = opened(committed(2, 1).volumes())
        before = told_by(found)
        one, other = found.vault(), found.vault()
        one.wipe()
        one.commit()
        self.assertEqual(other.count(), 5)
        self.assertEqual(told_by(found), before)
        self.assertEqual(found.mended(), other.volumes())

    def test_the_last_epoch(self):
        found = opened(as_pieces(written(2, 1, EDITS[:1], 16383)))
        vault = found.vault()
        self.assertEqual(vault.epoch(), 16383)
        self.assertEqual(raised(vault.compact, 1, 0), ("NoRoom", "epochs"))
        vault.wipe()
        self.assertEqual(vault.commit(), 1)

    def test_an_epoch_without_room(self):
        vault = Vault(1, 0)
        for _ in range(16384):
            vault.commit()
        found = opened(vault.volumes())
        self.assertEqual((found.count, found.stripes), (16384, 16384))
        other = found.vault()
        self.assertEqual(raised(other.commit), ("NoRoom", "stripes"))
        self.assertEqual(other.volumes(), vault.volumes())

    def test_lesser_stripes_of_pieces_made_by_hand(self):
        text = model_text(0, EDITS[0])
        rows = [altered(slow_striped(sign, 1, 1, 0, at, 0)[0], last=1 if at == len(text) - 1 else 0)
                for at, sign in enumerate(text)]
        vault = opened(as_pieces(rows)).vault()
        vault.wipe()
        vault.commit()
        self.assertEqual(vault.volumes(), spread(written(1, 1, (EDITS[0], (("wipe",),)))))


class AnyPiecesTest(OpeningTest):
    """Promise [30], and the model, for pieces of all kinds."""

    def some_pool(self):
        """Rows of blocks of several histories, some of them altered."""
        rows = []
        for epoch in self.random.sample((0, 1, 127, 128, 16383), self.random.randint(1, 3)):
            k, r = self.random.choice(((1, 0), (1, 2), (2, 1), (3, 1)))
            edits = EDITS[:self.random.randint(1, 5)]
            rows += written(k, r, edits, epoch)
            if self.random.random() < 0.4:
                rows += written(k, r, edits[:-1] + ([("put", "q", "other")],), epoch)
        for _ in range(self.random.choice((0, 0, 1, 3))):
            row = self.random.choice(rows)
            values = self.random.choice(({"last": 1}, {"last": 0}, {"number": 1}, {"epoch": 1}, {"stripe": 1}, {"used": 5},
                                         {"payload": (0,) * 31}, {"payload": (37,) * 31}, {"r": 2}, {"volume": 0}))
            rows.append(altered(row, **values))
        return rows

    def some_pieces(self, rows):
        """The rows spread over pieces, with noise and torn rows between them."""
        pieces = [() for _ in range(self.random.randint(1, 4))]
        for row in rows:
            at = self.random.randrange(len(pieces))
            pieces[at] += row
            if self.random.random() < 0.1:
                pieces[at] += self.random.choice((noise(self.random, 7), row[:30], row[9:], row))
        return pieces

    def test_it_tells_what_the_model_tells(self):
        counts = set()
        for _ in range(150):
            rows = self.some_pool()
            self.random.shuffle(rows)
            pieces = self.some_pieces(rows[self.random.choice((0, 0, 1, 3, len(rows) // 2)):])
            found = self.assert_tells(pieces)
            counts.add((found.epoch, found.count))
            self.check_mended(found)
        self.assertGreater(len(counts), 10)

    def check_mended(self, found):
        again = self.assert_tells(found.mended(), epoch=found.epoch, layout=found.layout, count=found.count,
                                  transactions=found.transactions, missing=(), beyond=(), parted=())
        self.assertEqual(again.state, found.state)
        self.assertEqual(again.mended(), found.mended())
        if found.epoch is not None:
            rows = written(*found.layout, found.transactions, found.epoch)
            self.assertEqual(found.mended(), spread(rows))
            vault = found.vault()
            self.assertEqual(vault.writes(), tuple(("block", row[1], row) for row in rows))
            self.assertEqual((vault.epoch(), vault.layout(), vault.transactions()),
                             (found.epoch, found.layout, found.transactions))
            self.assertEqual((vault.state(), vault.working(), vault.pending()), (found.state, found.state, ()))

    def test_it_hangs_on_the_set_of_blocks_alone(self):
        for _ in range(40):
            rows = self.some_pool()
            expected = {**told_by(opened([row for row in rows])), "gaps": ()}
            for _ in range(3):
                self.random.shuffle(rows)
                self.assertEqual({**told_by(opened(self.some_pieces(rows))), "gaps": ()}, expected)

    def test_more_blocks_of_one_history_never_tell_less(self):
        for _ in range(25):
            vault = Vault(*self.random.choice(((1, 1), (2, 1), (3, 0), (2, 2))))
            for _ in range(self.random.randrange(120)):
                word, arguments = some_call(self.random)
                if raised(getattr(vault, word), *arguments) is None and self.random.random() < 0.3:
                    vault.commit()
                    if self.random.random() < 0.2:
                        vault.compact(*self.random.choice(((1, 1), (2, 1), (3, 0))))
            rows = [write[2] for write in vault.writes() if write[0] == "block"]
            self.random.shuffle(rows)
            before = (-1, 0)
            for many in range(0, len(rows) + 1, 1 + len(rows) // 12):
                found = opened(rows[:many])
                now = (-1 if found.epoch is None else found.epoch, found.count)
                self.assertGreaterEqual(now, before)
                before = now
            if rows:
                found = opened(rows)
                self.assertEqual((found.epoch, found.count, found.state), (vault.epoch(), vault.count(), vault.state()))

    def test_noise_raises_nothing(self):
        for _ in range(50):
            self.assert_tells([noise(self.random, self.random.randrange(200)) for _ in range(3)], epoch=None)

    def test_equal_calls_tell_the_same(self):
        pieces = committed(3, 1).volumes()[1:]
        one, other = opened(pieces), opened(as_lists(pieces))
        self.assertEqual(told_by(one), told_by(other))
        self.assertEqual(one.mended(), other.mended())
        self.assertEqual(told(one.vault()), told(other.vault()))


# The cases stand in the classes above; the one that they share has none.
del OpeningTest
