"""Promises [31], [32], [33]: the index, and what is fetched by it."""

import unittest

from mendvault.indexing import fetched, index_of, label_index
from mendvault.opening import opened
from mendvault.vaults import Vault
from tests.helper import SIGNS, altered, as_lists, fixed_random, noise, raised, slow_striped
from tests.model import ModelState, model_text
from tests.test_opening import EDITS, committed, written
from tests.test_vaults import some_call


def cells_of(number, edits, stripe, k):
    """Of a transaction's contents the places (stripe, volume, place) of their signs, and the stripe behind it."""
    text = model_text(number, edits)
    at = text.index("\n") + 1
    cells = []
    for word, *rest in edits:
        at = text.index("\n", at) + 1
        if word in ("put", "append"):
            size = len(rest[1])
            assert text[at:at + size] == rest[1]
            cells.append([(stripe + each // (31 * k), each // 31 % k, each % 31) for each in range(at, at + size)])
            at += size + 1
    return cells, stripe + (len(text) - 1) // (31 * k) + 1


def model_cells(transactions, k):
    """Each name's signs' places, and so for what each label keeps."""
    contents, kept, stripe = {}, {}, 0
    for number, edits in enumerate(transactions):
        cells, stripe = cells_of(number, edits, stripe, k)
        for word, *rest in edits:
            if word == "put":
                contents[rest[0]] = cells.pop(0)
            elif word == "append":
                contents[rest[0]] = contents[rest[0]] + cells.pop(0)
            elif word == "drop":
                del contents[rest[0]]
            elif word == "rename":
                contents[rest[1]] = contents.pop(rest[0])
            elif word == "copy":
                contents[rest[1]] = contents[rest[0]]
            elif word == "snapshot":
                kept[rest[0]] = dict(contents)
            elif word == "forget":
                del kept[rest[0]]
            elif word == "restore":
                contents = dict(kept[rest[0]])
            else:
                contents = {}
    return contents, kept


def runs(cells):
    """The places as spans, those side by side in one block together."""
    spans = []
    for stripe, volume, at in cells:
        if spans and spans[-1][:2] == (stripe, volume) and spans[-1][3] == at:
            spans[-1] = (stripe, volume, spans[-1][2], at + 1)
        else:
            spans.append((stripe, volume, at, at + 1))
    return tuple(spans)


def model_index(contents):
    return tuple((name, runs(cells)) for name, cells in sorted(contents.items()))


class IndexTest(unittest.TestCase):
    def setUp(self):
        self.random = fixed_random(31)

    def assert_index(self, transactions, k):
        contents, kept = model_cells(transactions, k)
        self.assertEqual(index_of(transactions, k), model_index(contents))
        self.assertEqual(label_index(transactions, k), tuple((label, model_index(kept[label])) for label in sorted(kept)))
        return dict(index_of(transactions, k))

    def assert_spans(self, edits, **expected):
        """The spans behind one transaction of these edits, of one volume that bears signs."""
        self.assertEqual(self.assert_index((edits,), 1), expected)

    def test_nothing(self):
        for transactions in ((), [], ((),), ((), ()), ((("wipe",),),)):
            self.assertEqual((index_of(transactions, 1), label_index(transactions, 1)), ((), ()))

    def test_by_hand(self):
        # tx 0 1, put note 5, hello: the content begins at the place 7 + 11.
        transactions = ((("put", "note", "hello"),),)
        self.assertEqual(index_of(transactions, 2), (("note", ((0, 0, 18, 23),)),))
        # It is 20 signs long: 13 in the first block, 7 in the second one, which is of the next stripe if k is 1.
        transactions = ((("put", "n", "x" * 20),),)
        self.assertEqual(index_of(transactions, 1), (("n", ((0, 0, 16, 31), (1, 0, 0, 5))),))
        self.assertEqual(index_of(transactions, 2), (("n", ((0, 0, 16, 31), (0, 1, 0, 5))),))
        # tx 0 1, put n 20, the content, end 1234567890: behind it the next transaction begins in the stripe of its own.
        self.assertEqual(index_of(transactions + ((("put", "m", "y"),),), 6)[0], ("m", ((1, 0, 15, 16),)))

    def test_ascending(self):
        index = index_of(((("put", "b", "1"), ("put", "a", "2"), ("snapshot", "z"), ("snapshot", "y")),), 1)
        self.assertEqual([name for name, _ in index], ["a", "b"])
        labels = label_index(((("put", "b", "1"), ("put", "a", "2"), ("snapshot", "z"), ("snapshot", "y")),), 1)
        self.assertEqual(labels, (("y", index), ("z", index)))

    def test_an_empty_content(self):
        self.assert_spans([("put", "a", "")], a=())
        self.assert_spans([("put", "a", ""), ("append", "a", "")], a=())
        self.assert_spans([("put", "a", ""), ("append", "a", "xy")], a=((0, 0, 27, 29),))

    def test_one_that_ends_at_an_edge(self):
        self.assert_spans([("put", "a", "x" * 15)], a=((0, 0, 16, 31),))
        self.assert_spans([("put", "a", "x" * 16)], a=((0, 0, 16, 31), (1, 0, 0, 1)))
        self.assert_spans([("put", "a", "x" * 46)], a=((0, 0, 16, 31), (1, 0, 0, 31)))

    def test_one_that_begins_at_an_edge(self):
        # The first line has 7 signs (8 with a count of two figures), each wipe 5, the put's line 8 or 9.
        self.assert_spans([("wipe",)] * 3 + [("put", "a", "x" * 62)], a=((1, 0, 0, 31), (2, 0, 0, 31)))
        self.assert_spans([("wipe",)] * 3 + [("put", "a", "x" * 9)], a=((0, 0, 30, 31), (1, 0, 0, 8)))
        self.assert_spans([("wipe",)] * 9 + [("put", "a", "x" * 8)], a=((1, 0, 30, 31), (2, 0, 0, 7)))

    def test_each_edge(self):
        for k in range(1, 7):
            for ahead in range(35):
                for size in (0, 1, 30, 31, 32, 62, 200):
                    spans = self.assert_index(([("put", "b", "y" * ahead), ("put", "a", "x" * size)],), k)["a"]
                    self.assertEqual(sum(end - begin for _, _, begin, end in spans), size)
                    self.assertTrue(all(0 <= begin < end <= 31 for _, _, begin, end in spans))

    def test_appended(self):
        index = self.assert_index((EDITS[0], EDITS[1], (("append", "a", "three"), ("append", "a", "4"))), 2)
        self.assertEqual(len(index["a"]), 3)

    def test_renamed_and_copied(self):
        edits = [("put", "a", "one"), ("rename", "a", "b"), ("copy", "b", "c"), ("append", "b", "x")]
        index = self.assert_index((edits,), 1)
        self.assertEqual(index["c"], ((0, 0, 15, 18),))
        self.assertEqual(index["b"][:1], index["c"])
        self.assertEqual(len(index["b"]), 2)
        self.assert_spans([("put", "a", "one"), ("rename", "a", "a"), ("copy", "a", "a")], a=((0, 0, 15, 18),))

    def test_kept_and_restored(self):
        transactions = (
            (("put", "a", "one"), ("snapshot", "s"), ("put", "a", "two"), ("put", "b", "three")),
            (("snapshot", "t"), ("wipe",), ("snapshot", "u")),
            (("restore", "s"), ("append", "a", "x")),
        )
        index = self.assert_index(transactions, 2)
        kept = dict(label_index(transactions, 2))
        self.assertEqual(sorted(kept), ["s", "t", "u"])
        self.assertEqual(kept["u"], ())
        self.assertEqual(dict(kept["s"])["a"], index["a"][:1])
        self.assertEqual([name for name, _ in kept["t"]], ["a", "b"])
        self.assert_index(transactions + ((("forget", "t"), ("drop", "a"), ("restore", "u")),), 2)

    def test_longest_contents(self):
        edits = [("put", "a", "")] + [("append", "a", "x")] * 400
        self.assertEqual(len(self.assert_index((edits,), 6)["a"]), 400)

    def test_any_transactions(self):
        for _ in range(20):
            k = self.random.randint(1, 6)
            vault = Vault(k, 0)
            for _ in range(60):
                word, arguments = some_call(self.random)
                raised(getattr(vault, word), *arguments)
                if self.random.random() < 0.2:
                    vault.commit()
            if self.random.random() < 0.5:
                vault.abandon()
                vault.compact(k, 1)
            vault.put("last", "x")
            vault.commit()
            self.assert_index(vault.transactions(), k)
            self.assertEqual(tuple(name for name, _ in index_of(vault.transactions(), k)), vault.state().names())
            self.assertEqual(tuple(label for label, _ in label_index(vault.transactions(), k)), vault.state().labels())

    def test_kinds(self):
        for transactions in (EDITS, as_lists(EDITS)):
            index, labels = index_of(transactions, 2), label_index(transactions, 2)
            self.assertEqual((index, labels), (index_of(EDITS, 2), label_index(EDITS, 2)))
            spans = index[0][1]
            for each in (index, index[0], spans, spans[0], labels, labels[0], labels[0][1], labels[0][1][0],
                         labels[0][1][0][1]):
                self.assertIs(type(each), tuple)
            self.assertEqual({type(number) for number in spans[0]}, {int})


# The blocks of a stripe of three volumes that bear signs and two of parity: its signs, by volumes.
SIGNS_OF = ("a" * 31, "b" * 30 + "c", "de" + "\n" * 20)
STRIPE = slow_striped("".join(SIGNS_OF), 3, 2, 5, 9, 7)


def other(volume, **values):
    """A block of the stripe with other values."""
    return altered(STRIPE[volume], **values)


class FetchTest(unittest.TestCase):
    def setUp(self):
        self.random = fixed_random(33)

    def fetch(self, rows, *spans):
        return fetched([sum(rows, ())], 5, 3, 2, spans)

    def assert_beyond(self, word, rows, *spans):
        self.assertEqual(raised(self.fetch, rows, *spans), ("Beyond", word))

    def test_nothing_asked(self):
        for pieces in ((), [()], [sum(STRIPE, ())], [noise(self.random, 100)]):
            self.assertEqual(fetched(pieces, 5, 3, 2, ()), ("", ()))

    def test_the_block_itself(self):
        self.assertEqual(self.fetch(STRIPE, (9, 1, 29, 31)), ("bc", ((9, 1),)))
        self.assertEqual(self.fetch(STRIPE[1:2], (9, 1, 29, 31)), ("bc", ((9, 1),)))
        self.assertEqual(self.fetch(STRIPE, (9, 0, 0, 31)), ("a" * 31, ((9, 0),)))
        self.assertEqual(self.fetch(STRIPE, (9, 2, 0, 3), (9, 0, 4, 5), (9, 2, 1, 2)), ("de\nae", ((9, 0), (9, 2))))

    def test_it_lost(self):
        for lost in range(3):
            for left in ((0, 1, 2, 3), (0, 1, 2, 4), (0, 1, 2, 3, 4)):
                volumes = [volume for volume in left if volume != lost]
                content, used = self.fetch([STRIPE[volume] for volume in volumes], (9, lost, 1, 5))
                self.assertEqual(content, SIGNS_OF[lost][1:5])
                self.assertEqual(used, tuple((9, volume) for volume in volumes[:3]))

    def test_several_spans(self):
        rows = [STRIPE[1], STRIPE[3], STRIPE[4]]
        self.assertEqual(self.fetch(rows, (9, 1, 0, 1)), ("b", ((9, 1),)))
        self.assertEqual(self.fetch(rows, (9, 2, 0, 2), (9, 1, 0, 1), (9, 0, 7, 8), (9, 1, 30, 31)),
                         ("debac", ((9, 1), (9, 3), (9, 4))))

    def test_used_over_stripes(self):
        rows = STRIPE + [altered(row, stripe=2) for row in STRIPE[2:]]
        self.assertEqual(self.fetch(rows, (9, 1, 30, 31), (2, 0, 0, 1), (9, 0, 0, 1)),
                         ("caa", ((2, 2), (2, 3), (2, 4), (9, 0), (9, 1))))

    def test_too_few(self):
        for left in ((), (3,), (1, 4), (1, 2)):
            self.assert_beyond("lost", [STRIPE[volume] for volume in left], (9, 0, 0, 1))
        self.assert_beyond("lost", [], (9, 0, 0, 1))
        self.assert_beyond("lost", STRIPE, (8, 0, 0, 1))
        self.assertEqual(raised(fetched, (), 5, 3, 2, ((9, 0, 0, 1),)), ("Beyond", "lost"))

    def test_other_epochs_and_layouts_are_not_looked_at(self):
        for values in ({"epoch": 4}, {"k": 4}, {"k": 2}, {"r": 3}, {"r": 4}):
            others = [other(volume, **values) for volume in range(3)]
            self.assert_beyond("lost", others, (9, 0, 0, 1))
            wrong = [other(0, payload=(70,) * 31, **values)]
            self.assertEqual(self.fetch(wrong + others + STRIPE, (9, 0, 0, 2)), ("aa", ((9, 0),)))
            self.assertEqual(self.fetch(wrong + others + STRIPE[1:], (9, 0, 0, 2)), ("aa", ((9, 1), (9, 2), (9, 3))))

    def test_other_stripes_are_not_looked_at(self):
        wrong = [altered(row, stripe=8, payload=(70,) * 31) for row in STRIPE]
        self.assertEqual(self.fetch(wrong + STRIPE[1:], (9, 0, 0, 2)), ("aa", ((9, 1), (9, 2), (9, 3))))

    def test_two_unlike_ones_at_its_place(self):
        for values in ({"payload": (70,) * 31}, {"used": 80}, {"last": 0}, {"number": 8}):
            for volume in range(3):
                self.assert_beyond("parted", STRIPE + [other(volume, **values)], (9, volume, 0, 1))
                self.assert_beyond("parted", [STRIPE[volume], other(volume, **values)], (9, volume, 0, 1))
            self.assertEqual(self.fetch(STRIPE + [other(0, **values)], (9, 1, 0, 1)), ("b", ((9, 1),)))

    def test_two_alike_at_its_place(self):
        self.assertEqual(self.fetch(STRIPE * 2, (9, 0, 0, 1)), ("a", ((9, 0),)))
        self.assertEqual(fetched([STRIPE[0], STRIPE[0]], 5, 3, 2, [(9, 0, 0, 1)]), ("a", ((9, 0),)))
        self.assertEqual(self.fetch(STRIPE[1:4] * 2, (9, 0, 0, 1)), ("a", ((9, 1), (9, 2), (9, 3))))
        self.assert_beyond("lost", STRIPE[1:3] * 2, (9, 0, 0, 1))

    def test_one_at_its_place_that_is_unlike_the_others(self):
        # That place alone is looked at.
        wrong = other(0, used=5, last=0, number=8, payload=(70,) * 31)
        self.assertEqual(self.fetch([wrong] + STRIPE[1:], (9, 0, 0, 2)), ("FF", ((9, 0),)))
        self.assertEqual(self.fetch([wrong] + STRIPE[1:] + [other(1, used=3)], (9, 0, 0, 2)), ("FF", ((9, 0),)))

    def test_two_unlike_ones_of_the_least_volume(self):
        for values in ({"payload": (70,) * 31}, {"used": 80}, {"last": 0}, {"number": 8}):
            self.assert_beyond("parted", STRIPE[1:] + [other(1, **values)], (9, 0, 0, 1))
            self.assert_beyond("parted", [STRIPE[1], other(1, **values)], (9, 0, 0, 1))

    def test_two_unlike_ones_of_another_volume(self):
        wrong = other(2, payload=(70,) * 31)
        self.assert_beyond("parted", STRIPE[1:] + [wrong], (9, 0, 0, 1))
        self.assert_beyond("parted", [STRIPE[1], STRIPE[2], wrong], (9, 0, 0, 1))
        last = other(4, payload=(70,) * 31)
        # Also where there are k ahead of them.
        self.assert_beyond("parted", STRIPE[1:] + [last], (9, 0, 0, 1))

    def test_those_that_do_not_count(self):
        for values in ({"used": 80}, {"last": 0}, {"number": 8}):
            strange = [other(2, **values), other(2, payload=(70,) * 31, **values), other(3, payload=(1,) * 31, **values)]
            self.assertEqual(self.fetch(strange + STRIPE[1:], (9, 0, 0, 1)), ("a", ((9, 1), (9, 2), (9, 3))))
            self.assertEqual(self.fetch(strange + [STRIPE[1], STRIPE[3], STRIPE[4]], (9, 0, 0, 1)),
                             ("a", ((9, 1), (9, 3), (9, 4))))
            self.assert_beyond("lost", strange + [STRIPE[1], STRIPE[4]], (9, 0, 0, 1))

    def test_the_least_volume_tells_which_count(self):
        # The block of volume 1 is of another transaction, and with it just one more.
        strange = [other(1, number=8), other(2, number=8)]
        self.assert_beyond("lost", strange + STRIPE[2:], (9, 0, 0, 1))
        self.assertEqual(self.fetch(strange + [other(3, number=8)] + STRIPE[2:], (9, 0, 0, 1))[1], ((9, 1), (9, 2), (9, 3)))

    def test_a_symbol_that_is_no_sign(self):
        for symbol in (0, 9, 11, 31, 37, 127):
            wrong = other(0, payload=(65,) * 4 + (symbol,) + (66,) * 26)
            self.assert_beyond("parted", [wrong], (9, 0, 4, 5))
            self.assert_beyond("parted", [wrong], (9, 0, 0, 31))
            self.assertEqual(self.fetch([wrong], (9, 0, 0, 4), (9, 0, 5, 6)), ("AAAAB", ((9, 0),)))
        # The stripe's last signs, and the noughts behind them, of a block that was lost.
        self.assertEqual(self.fetch([STRIPE[0], STRIPE[1], STRIPE[4]], (9, 2, 20, 22))[0], "\n\n")
        self.assert_beyond("parted", [STRIPE[0], STRIPE[1], STRIPE[4]], (9, 2, 20, 23))

    def test_each_sign(self):
        for begin in range(0, len(SIGNS), 31):
            part = SIGNS[begin:begin + 31]
            payload = tuple(ord(sign) for sign in part) + (0,) * (31 - len(part))
            self.assertEqual(self.fetch([other(1, payload=payload)], (9, 1, 0, len(part)))[0], part)

    def test_the_first_in_the_sequence_of_the_spans(self):
        parted, lost, none = (9, 0, 0, 1), (8, 0, 0, 1), (9, 2, 30, 31)
        rows = STRIPE + [other(0, last=0)]
        for spans, word in (((parted, lost), "parted"), ((lost, parted), "lost"), ((none, lost), "parted"),
                            ((lost, none), "lost"), (((9, 1, 0, 1), lost, none), "lost")):
            self.assert_beyond(word, rows, *spans)

    def test_parted_goes_ahead_of_lost(self):
        self.assert_beyond("parted", [STRIPE[3], other(3, payload=(70,) * 31)], (9, 0, 0, 1))
        self.assert_beyond("parted", [STRIPE[1], STRIPE[3], other(3, payload=(70,) * 31)], (9, 0, 0, 1))

    def test_any_sequence_of_pieces(self):
        rows = STRIPE[1:] + [other(2, number=8), other(3, used=4)]
        for _ in range(20):
            self.random.shuffle(rows)
            pieces = [rows[0] + (3, 4) + rows[1], noise(self.random, 30), sum(rows[2:], ())]
            self.assertEqual(fetched(pieces, 5, 3, 2, ((9, 0, 0, 2),)), ("aa", ((9, 1), (9, 2), (9, 3))))

    def test_kinds(self):
        arguments = [sum(STRIPE[1:], ())], 5, 3, 2, ((9, 0, 0, 2), (9, 2, 0, 1))
        for each in (arguments, as_lists(arguments)):
            result = fetched(*each)
            self.assertEqual(result, ("aad", ((9, 1), (9, 2), (9, 3))))
            for part in (result, result[1], result[1][0]):
                self.assertIs(type(part), tuple)
        self.assertEqual(fetched(pieces=arguments[0], epoch=5, k=3, r=2, spans=()), ("", ()))


class FetchedByTheIndexTest(unittest.TestCase):
    """What is fetched by the index is what the state has, as long as each stripe has enough blocks."""

    def setUp(self):
        self.random = fixed_random(32)

    def assert_fetched(self, vault, rows):
        found = opened(rows)
        self.assertEqual(found.state, vault.state())
        index = index_of(found.transactions, found.layout[0])
        self.assertEqual([name for name, _ in index], list(found.state.names()))
        for name, spans in index:
            content, used = fetched(rows, found.epoch, *found.layout, spans)
            self.assertEqual(content, found.state.text(name))
            there = {(128 * row[6] + row[7], row[1]) for row in rows if 128 * row[4] + row[5] == found.epoch}
            self.assertLessEqual(set(used), there)
            if all(span[:2] in there for span in spans):
                self.assertEqual(set(used), {span[:2] for span in spans})
        for label, index in label_index(found.transactions, found.layout[0]):
            for name, spans in index:
                content, _ = fetched(rows, found.epoch, *found.layout, spans)
                self.assertEqual(content, dict(found.state.kept(label))[name])

    def test_each_volume_lost(self):
        vault = committed(2, 1)
        for volume in range(4):
            self.assert_fetched(vault, [row for row in written(2, 1, EDITS) if row[1] != volume])

    def test_any_vault(self):
        for _ in range(15):
            k, r = self.random.choice(((1, 1), (2, 1), (3, 2), (6, 4), (2, 0)))
            vault = Vault(k, r)
            for _ in range(30):
                word, arguments = some_call(self.random)
                raised(getattr(vault, word), *arguments)
                if self.random.random() < 0.2:
                    vault.commit()
            vault.commit()
            if self.random.random() < 0.5:
                vault.compact(k, r)
            rows = [row for word, _, row in vault.writes() if word == "block"]
            stripes = {row[4:8] for row in rows}
            lost = [(stripe, volume) for stripe in stripes for volume in self.random.sample(range(k + r), r)]
            self.assert_fetched(vault, [row for row in rows if (row[4:8], row[1]) not in lost])


class ModelTest(unittest.TestCase):
    def test_the_states_are_those_of_the_model(self):
        state = ModelState()
        for edit in [edit for edits in EDITS for edit in edits]:
            state = state.edited(edit)
        self.assertEqual(tuple(name for name, _ in index_of(EDITS, 3)), tuple(sorted(state.contents)))
