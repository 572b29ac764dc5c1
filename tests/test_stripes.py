"""Promises [15], [16]: stripes."""

import itertools
import unittest

from mendvault.blocks import Block
from mendvault.stripes import joined_stripe, striped
from tests.helper import LAYOUTS, SIGNS, fixed_random, raised, slow_striped, slow_through, some_text

# Arguments that are let, and for each but the text some that are out of its range.
RIGHT = ("hello", 2, 1, 3, 4, 5)
WRONG = (
    ("",),
    (0, 7, -1, 10 ** 30),
    (-1, 5, 10 ** 30),
    (-1, 16384, 10 ** 30),
    (-1, 16384, 10 ** 30),
    (-1, 16384, 10 ** 30),
)


def with_value(values, at, value):
    return values[:at] + (value,) + values[at + 1:]


def rows_of(blocks):
    return [block.row() for block in blocks]


class StripedTest(unittest.TestCase):
    def setUp(self):
        self.random = fixed_random(15)

    def assert_striped(self, *arguments):
        blocks = striped(*arguments)
        self.assertIs(type(blocks), tuple)
        self.assertEqual({type(block) for block in blocks}, {Block})
        self.assertEqual(rows_of(blocks), slow_striped(*arguments))
        return blocks

    def test_by_hand(self):
        blocks = striped("A", 1, 2, 5, 6, 7)
        self.assertEqual(len(blocks), 3)
        for volume, block in enumerate(blocks):
            self.assertEqual(block, Block(volume, 1, 2, 5, 6, 1, 1, 7, (65,) + (0,) * 30))

    def test_two_stripes_by_hand(self):
        blocks = striped("a" * 31 + "b" * 31 + "c", 2, 1, 0, 9, 0)
        expected = (
            Block(0, 2, 1, 0, 9, 62, 0, 0, (97,) * 31),
            Block(1, 2, 1, 0, 9, 62, 0, 0, (98,) * 31),
            # The value at 2 of the line through (0, 97) and (1, 98): its slope is 3.
            Block(2, 2, 1, 0, 9, 62, 0, 0, (97 ^ 6,) * 31),
            Block(0, 2, 1, 0, 10, 1, 1, 0, (99,) + (0,) * 30),
            Block(1, 2, 1, 0, 10, 1, 1, 0, (0,) * 31),
            # The slope is 99 here; twice 99, modulo 131, is 69.
            Block(2, 2, 1, 0, 10, 1, 1, 0, (99 ^ 69,) + (0,) * 30),
        )
        self.assertEqual(blocks, expected)

    def test_each_layout(self):
        for k, r in LAYOUTS:
            self.assert_striped(some_text(self.random, 40 * k), k, r, 1, 2, 3)

    def test_lengths_about_a_stretch(self):
        for k, r in ((1, 0), (1, 4), (3, 1), (6, 4), (6, 0)):
            for many in (1, 2, 30, 31, 32, 31 * k - 1, 31 * k, 31 * k + 1, 62 * k, 62 * k + 1):
                blocks = self.assert_striped(some_text(self.random, many), k, r, 0, 0, 0)
                self.assertEqual(len(blocks), -(-many // (31 * k)) * (k + r))

    def test_used_and_last(self):
        for many, expected in ((1, [(1, 1)]), (93, [(93, 1)]), (94, [(93, 0), (1, 1)]), (186, [(93, 0), (93, 1)])):
            blocks = striped(some_text(self.random, many), 3, 2, 0, 0, 0)
            self.assertEqual([(block.used, block.last) for block in blocks[::5]], expected)
            for begin in range(0, len(blocks), 5):
                self.assertEqual(len({(block.used, block.last) for block in blocks[begin:begin + 5]}), 1)

    def test_numbers(self):
        for at in (3, 4, 5):
            for value in (0, 1, 127, 128, 16383):
                self.assert_striped(*with_value(RIGHT, at, value))

    def test_every_sign(self):
        self.assert_striped(SIGNS, 2, 2, 0, 0, 0)

    def test_a_transaction_of_3000_signs(self):
        text = some_text(self.random, 3000)
        blocks = striped(text, 1, 0, 0, 100, 1)
        self.assertEqual(rows_of(blocks), slow_striped(text, 1, 0, 0, 100, 1))
        self.assertEqual(len(blocks), 97)

    def test_each_argument_out_of_its_range(self):
        for at, wrong in enumerate(WRONG):
            for value in wrong:
                self.assertEqual(raised(striped, *with_value(RIGHT, at, value)), ("BadValue", at), (at, value))

    def test_more_than_one_out_of_its_range(self):
        for place, other in itertools.combinations(range(6), 2):
            for value in WRONG[place]:
                for behind in WRONG[other]:
                    arguments = with_value(with_value(RIGHT, place, value), other, behind)
                    self.assertEqual(raised(striped, *arguments), ("BadValue", place), arguments)

    def test_the_last_stripe(self):
        for k, r in ((1, 0), (2, 1), (6, 4)):
            for many in (1, 2, 3):
                for text in (some_text(self.random, 31 * k * many), some_text(self.random, 31 * k * (many - 1) + 1)):
                    blocks = self.assert_striped(text, k, r, 0, 16384 - many, 0)
                    self.assertEqual(blocks[-1].stripe, 16383)
                    for stripe in range(16385 - many, 16386):
                        self.assertEqual(raised(striped, text, k, r, 0, stripe, 0), ("BadValue", 4))

    def test_more_stripes_than_an_epoch_has(self):
        self.assertEqual(raised(striped, "a" * (31 * 16384 + 1), 1, 0, 0, 0, 0), ("BadValue", 4))

    def test_the_last_stripe_is_looked_at_behind_the_epoch(self):
        text = "a" * 63
        self.assertEqual(raised(striped, text, 2, 1, 0, 16383, 0), ("BadValue", 4))
        self.assertEqual(raised(striped, text, 2, 1, 16384, 16383, 0), ("BadValue", 3))
        self.assertEqual(raised(striped, text, 2, 5, 0, 16383, 0), ("BadValue", 2))
        self.assertEqual(raised(striped, text, 0, 1, 0, 16383, 0), ("BadValue", 1))
        self.assertEqual(raised(striped, text, 2, 1, 0, 16383, 16384), ("BadValue", 4))


def stripe_of(symbols, k, r, used, last=1):
    """The blocks of a stripe with these symbols, whether they be signs or not."""
    words = [slow_through([(v, symbols[31 * v + at]) for v in range(k)], k + r) for at in range(31)]
    return [Block(v, k, r, 7, 8, used, last, 9, [word[v] for word in words]) for v in range(k + r)]


def other_block(block, **values):
    """The block with other values."""
    names = ("volume", "k", "r", "epoch", "stripe", "used", "last", "number", "payload")
    return Block(*[values.get(name, getattr(block, name)) for name in names])


def changed_block(block, at, by=1):
    payload = list(block.payload)
    payload[at] ^= by
    return other_block(block, payload=payload)


class JoinedStripeTest(unittest.TestCase):
    def setUp(self):
        self.random = fixed_random(16)

    def some_stripe(self, k, r, many=None):
        """A text of one stretch, and its blocks."""
        text = some_text(self.random, self.random.randint(1, 31 * k) if many is None else many)
        return text, striped(text, k, r, 3, 4, 5)

    def assert_joined(self, blocks, text, whole):
        for each in (tuple(blocks), list(blocks)):
            result = joined_stripe(each)
            self.assertEqual(result, (text, tuple(whole)))
            self.assertIs(type(result), tuple)
            self.assertIs(type(result[1]), tuple)

    def assert_beyond(self, blocks, word):
        for each in (tuple(blocks), list(blocks)):
            self.assertEqual(raised(joined_stripe, each), ("Beyond", word))

    def test_all_given(self):
        for k, r in LAYOUTS:
            text, whole = self.some_stripe(k, r)
            self.assert_joined(whole, text, whole)
            self.assert_joined(whole[::-1], text, whole)

    def test_every_choice_of_k_or_more(self):
        for k, r in LAYOUTS:
            text, whole = self.some_stripe(k, r)
            for many in range(k, k + r + 1):
                choices = list(itertools.combinations(whole, many))
                for blocks in self.random.sample(choices, min(len(choices), 20)):
                    self.assert_joined(self.random.sample(blocks, many), text, whole)

    def test_every_choice_in_one_layout(self):
        text, whole = self.some_stripe(3, 3)
        for many in range(3, 7):
            for blocks in itertools.permutations(whole, many):
                self.assertEqual(joined_stripe(blocks), (text, whole))

    def test_lengths(self):
        for k, r in ((1, 0), (1, 1), (2, 2), (6, 4)):
            for many in (1, 30, 31, 31 * k - 1, 31 * k):
                text, whole = self.some_stripe(k, r, many)
                self.assert_joined(whole[r:], text, whole)

    def test_stripes_of_longer_texts(self):
        text = some_text(self.random, 200)
        blocks = striped(text, 2, 2, 1, 2, 3)
        for at, begin in enumerate(range(0, len(blocks), 4)):
            whole = blocks[begin:begin + 4]
            self.assert_joined(whole[2:], text[62 * at:62 * at + 62], whole)

    def test_every_sign(self):
        whole = striped(SIGNS, 4, 2, 0, 0, 0)
        self.assert_joined(whole[2:], SIGNS, whole)

    def test_used_below_all_also_where_it_is_not_the_last(self):
        for last in (0, 1):
            whole = stripe_of([65] * 5 + [0] * 57, 2, 2, 5, last)
            self.assert_joined(whole, "AAAAA", whole)
            self.assert_joined(whole[2:], "AAAAA", whole)

    def test_none(self):
        self.assert_beyond((), "lost")

    def test_fewer_than_k(self):
        for k, r in LAYOUTS:
            _, whole = self.some_stripe(k, r)
            for many in range(k):
                self.assert_beyond(self.random.sample(whole, many), "lost")

    def test_unlike_in_one_thing(self):
        _, whole = self.some_stripe(3, 2, 50)
        others = {"k": 4, "r": 3, "epoch": 2, "stripe": 5, "used": 51, "last": 0, "number": 4}
        for name, value in others.items():
            for at in range(5):
                wrong = other_block(whole[at], **{name: value})
                self.assert_beyond(whole[:at] + (wrong,) + whole[at + 1:], "parted")
                for other in range(5):
                    if other != at:
                        self.assert_beyond((wrong, whole[other]), "parted")
                        self.assert_beyond((whole[other], wrong), "parted")

    def test_two_of_one_volume(self):
        _, whole = self.some_stripe(3, 2)
        for block in whole:
            for other in (block, other_block(block), changed_block(block, 4)):
                self.assert_beyond(whole + (other,), "parted")
                self.assert_beyond((other,) + whole, "parted")
                # Too few besides: what parts them goes ahead.
                self.assert_beyond((block, other), "parted")

    def test_lost_goes_ahead_of_no_word(self):
        whole = striped("a" * 93, 3, 2, 0, 0, 0)
        self.assert_beyond((whole[0], changed_block(whole[1], 0)), "lost")

    def test_of_no_word_at_one_place(self):
        for k, r in LAYOUTS:
            _, whole = self.some_stripe(k, r, 31 * k)
            for many in range(k + 1, k + r + 1):
                blocks = self.random.sample(whole, many)
                for at in range(many):
                    place = self.random.randrange(31)
                    wrong = changed_block(blocks[at], place, self.random.randrange(1, 128))
                    self.assert_beyond(blocks[:at] + [wrong] + blocks[at + 1:], "parted")

    def test_of_no_word_at_each_place(self):
        whole = striped("a" * 40, 2, 1, 0, 0, 0)
        for at in range(3):
            for place in range(31):
                wrong = changed_block(whole[at], place)
                self.assert_beyond(whole[:at] + (wrong,) + whole[at + 1:], "parted")

    def test_a_used_symbol_that_is_no_sign(self):
        for symbol in range(128):
            for at in (0, 30, 31, 61):
                symbols = [65] * 62
                symbols[at] = symbol
                whole = stripe_of(symbols, 2, 2, 62)
                for blocks in (whole, whole[2:]):
                    if chr(symbol) in SIGNS:
                        self.assert_joined(blocks, "".join(chr(each) for each in symbols), whole)
                    else:
                        self.assert_beyond(blocks, "parted")

    def test_one_behind_the_used_ones_that_is_not_0(self):
        for used in (1, 30, 31, 32, 61):
            for at in range(used, 62):
                for symbol in (1, 65, 127):
                    symbols = [65] * used + [0] * (62 - used)
                    symbols[at] = symbol
                    whole = stripe_of(symbols, 2, 2, used)
                    self.assert_beyond(whole[1:], "parted")

    def test_the_last_used_symbol_counts(self):
        whole = stripe_of([65] * 10 + [0] * 52, 2, 2, 11)
        self.assert_beyond(whole, "parted")
        whole = stripe_of([65] * 10 + [0] * 52, 2, 2, 9)
        self.assert_beyond(whole, "parted")
        whole = stripe_of([65] * 10 + [0] * 52, 2, 2, 10)
        self.assert_joined(whole, "A" * 10, whole)

    def test_lists_are_changed_later(self):
        text, whole = self.some_stripe(2, 1)
        blocks = list(whole)
        result = joined_stripe(blocks)
        self.assertEqual(blocks, list(whole))
        blocks.clear()
        self.assertEqual(result, (text, whole))
