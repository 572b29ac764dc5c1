"""Promises [11], [12]: blocks."""

import itertools
import unittest

from mendvault.blocks import Block, read_block
from mendvault.sums import sum_row, summed
from tests.helper import LAYOUTS, fixed_random, raised, sealed, slow_row, some_row

NAMES = ("volume", "k", "r", "epoch", "stripe", "used", "last", "number", "payload")

# A block's values, beside which each one is wrong in some case.
RIGHT = (3, 4, 2, 300, 200, 60, 0, 17, tuple(range(31)))

# For each value: the greatest and the least ones that are let beside those of RIGHT.
EDGES = (
    (0, 5),
    (2, 6),
    (0, 4),
    (0, 1, 127, 128, 16383),
    (0, 1, 127, 128, 16383),
    (1, 124),
    (0, 1),
    (0, 1, 127, 128, 16383),
    ((0,) * 31, (127,) * 31),
)

# For each value: some that are out of its range.
WRONG = (
    (-1, 6, 7, 128, 10 ** 30),
    (0, -1, 7, 128, 10 ** 30),
    (-1, 5, 128, 10 ** 30),
    (-1, 16384, 10 ** 30),
    (-1, 16384, 10 ** 30),
    (0, -1, 125, 128, 10 ** 30),
    (-1, 2, 128),
    (-1, 16384, 10 ** 30),
    ((), (0,) * 30, (0,) * 32, (0,) * 30 + (128,), (-1,) + (0,) * 30, (0,) * 15 + (10 ** 30,) + (0,) * 15),
)

# The sequence in which they are looked at.
SEQUENCE = (1, 2, 0, 3, 4, 5, 6, 7, 8)


def with_value(values, at, value):
    return values[:at] + (value,) + values[at + 1:]


def some_values(random_source):
    """The values of a block."""
    k, r = random_source.choice(LAYOUTS)
    numbers = [random_source.choice((0, 1, 127, 128, 16383, random_source.randrange(16384))) for _ in range(3)]
    used = random_source.randint(1, 31 * k)
    volume = random_source.randrange(k + r)
    last = random_source.randrange(2)
    return volume, k, r, numbers[0], numbers[1], used, last, numbers[2], some_row(random_source, 31)


class BlockTest(unittest.TestCase):
    def setUp(self):
        self.random = fixed_random(11)

    def test_row_by_hand(self):
        row = Block(*RIGHT).row()
        self.assertEqual(row[:13], (128, 3, 4, 2, 2, 44, 1, 72, 0, 60, 0, 0, 17))
        self.assertEqual(row[13:44], tuple(range(31)))
        self.assertEqual(row, slow_row(*RIGHT))

    def test_row_at_the_top(self):
        row = Block(9, 6, 4, 16383, 16383, 186, 1, 16383, [127] * 31).row()
        self.assertEqual(row[:13], (128, 9, 6, 4, 127, 127, 127, 127, 1, 58, 1, 127, 127))
        self.assertEqual(row, slow_row(9, 6, 4, 16383, 16383, 186, 1, 16383, [127] * 31))

    def test_row_at_the_bottom(self):
        row = Block(0, 1, 0, 0, 0, 1, 0, 0, [0] * 31).row()
        self.assertEqual(row[:44], (128, 0, 1) + (0,) * 6 + (1,) + (0,) * 34)

    def test_ordinary_rows(self):
        for _ in range(200):
            values = some_values(self.random)
            row = Block(*values).row()
            self.assertEqual(row, slow_row(*values))
            self.assertEqual({type(each) for each in row}, {int})
            self.assertEqual(len(row), 48)

    def test_attributes(self):
        for _ in range(50):
            values = some_values(self.random)
            block = Block(*values)
            for name, value in zip(NAMES, values):
                self.assertEqual(getattr(block, name), value)
                self.assertIs(type(getattr(block, name)), type(value))

    def test_edges(self):
        for at, values in enumerate(EDGES):
            for value in values:
                values = with_value(RIGHT, at, value)
                self.assertEqual(Block(*values).row(), slow_row(*values))

    def test_each_layout(self):
        for k, r in LAYOUTS:
            for volume in (0, k + r - 1):
                for used in (1, 31 * k):
                    values = (volume, k, r, 1, 2, used, 1, 3, (5,) * 31)
                    self.assertEqual(Block(*values).row(), slow_row(*values))
            self.assertEqual(raised(Block, k + r, k, r, 1, 2, 1, 1, 3, (5,) * 31), ("BadValue", 0))
            self.assertEqual(raised(Block, 0, k, r, 1, 2, 31 * k + 1, 1, 3, (5,) * 31), ("BadValue", 5))

    def test_each_value_out_of_its_range(self):
        for at, wrong in enumerate(WRONG):
            for value in wrong:
                self.assertEqual(raised(Block, *with_value(RIGHT, at, value)), ("BadValue", at), (at, value))

    def test_more_than_one_out_of_its_range(self):
        for place, other in itertools.combinations(SEQUENCE, 2):
            for value in WRONG[place]:
                for behind in WRONG[other]:
                    values = with_value(with_value(RIGHT, place, value), other, behind)
                    self.assertEqual(raised(Block, *values), ("BadValue", place), values)

    def test_all_behind_one_out_of_their_range(self):
        for many in range(9):
            values = RIGHT
            for at in SEQUENCE[many:]:
                values = with_value(values, at, WRONG[at][0])
            self.assertEqual(raised(Block, *values), ("BadValue", SEQUENCE[many]))

    def test_payload_as_a_list(self):
        payload = list(range(31))
        block = Block(*RIGHT[:8], payload)
        payload[0] = 99
        payload.append(5)
        self.assertEqual(block.payload, tuple(range(31)))
        self.assertEqual(block.row(), slow_row(*RIGHT))

    def test_equal(self):
        for _ in range(20):
            values = some_values(self.random)
            one, other = Block(*values), Block(*values[:8], list(values[8]))
            self.assertIs(one == other, True)
            self.assertIs(one != other, False)
            self.assertIs(one == one, True)

    def test_unlike(self):
        for at, values in enumerate(EDGES):
            other = Block(*with_value(RIGHT, at, values[0] if values[0] != RIGHT[at] else values[1]))
            self.assertIs(Block(*RIGHT) == other, False)
            self.assertIs(Block(*RIGHT) != other, True)
            self.assertIs(other == Block(*RIGHT), False)
        for at in range(31):
            other = Block(*with_value(RIGHT, 8, with_value(RIGHT[8], at, 99)))
            self.assertIs(Block(*RIGHT) == other, False)

    def test_unlike_all_else(self):
        block = Block(*RIGHT)
        for other in (block.row(), list(block.row()), RIGHT, None, 0, "", (), True):
            self.assertIs(block == other, False)
            self.assertIs(other == block, False)
            self.assertIs(block != other, True)


class ReadBlockTest(unittest.TestCase):
    def setUp(self):
        self.random = fixed_random(12)

    def assert_none(self, row):
        self.assertIsNone(read_block(row), row)
        self.assertIsNone(read_block(list(row)), row)

    def test_rows_of_blocks(self):
        for _ in range(100):
            values = some_values(self.random)
            row = slow_row(*values)
            for block in (read_block(row), read_block(list(row))):
                self.assertIs(type(block), Block)
                self.assertEqual(tuple(getattr(block, name) for name in NAMES), values)
                self.assertIs(type(block.payload), tuple)
                self.assertEqual(block.row(), row)

    def test_the_list_is_changed_later(self):
        row = list(slow_row(*RIGHT))
        block = read_block(row)
        row[13:44] = [0] * 31
        self.assertEqual(block, Block(*RIGHT))

    def test_edges(self):
        for at, edges in enumerate(EDGES):
            for value in edges:
                values = with_value(RIGHT, at, value)
                self.assertEqual(read_block(slow_row(*values)), Block(*values))

    def test_values_out_of_their_range_under_a_right_sum(self):
        for at in (0, 1, 2, 5, 6):
            for value in range(256):
                values = with_value(RIGHT, at, value)
                known = raised(Block, *values) is None
                if value < 128 or at == 5:
                    self.assertEqual(read_block(slow_row(*values)) is not None, known, values)

    def test_no_layout_but_these(self):
        known = []
        for k in range(128):
            for r in range(128):
                if read_block(slow_row(0, k, r, 0, 0, 1, 0, 0, (0,) * 31)) is not None:
                    known.append((k, r))
        self.assertEqual(known, LAYOUTS)

    def test_lengths(self):
        row = slow_row(*RIGHT)
        self.assert_none(())
        self.assert_none((128,))
        for many in range(48):
            self.assert_none(row[:many])
            self.assert_none(row[48 - many:])
            self.assert_none(row[:many] + row[many + 1:])
            self.assert_none(row + row[:many + 1])
            self.assert_none(row[:many] + (0,) + row[many:])
        self.assert_none(row + (0,))
        self.assert_none((128,) + row)

    def test_one_integer_changed(self):
        row = slow_row(*RIGHT)
        for at in range(48):
            for value in (0, 1, 64, 127, 128, 129, 256, -1, -128, 10 ** 30, -10 ** 30, row[at] + 128, row[at] - 128):
                if value != row[at]:
                    self.assert_none(with_value(row, at, value))

    def test_the_mark_alone_stands_ahead(self):
        row = slow_row(*RIGHT)
        for value in range(128):
            self.assert_none((value,) + row[1:])

    def test_integers_that_are_no_symbols_under_a_sum_that_fits(self):
        # One less in the place above, 128 more in the one below: alike as two symbols of a number.
        for at in (5, 7, 9, 12):
            row = slow_row(3, 5, 2, 300, 200, 128, 0, 200, range(31))
            symbols = list(row[1:44])
            symbols[at - 2] -= 1
            symbols[at - 1] += 128
            self.assert_none(row[:1] + tuple(symbols) + row[44:])
            self.assert_none(sealed(symbols))
            self.assert_none(row[:1] + tuple(symbols) + sum_row(summed(symbols)))
        for at in range(43):
            for value in (128, 255, -1, -128):
                symbols = with_value(slow_row(*RIGHT)[1:44], at, value)
                self.assert_none(sealed(symbols))
                self.assert_none((128,) + symbols + sum_row(summed(symbols)))

    def test_two_marks(self):
        for at in range(1, 48):
            self.assert_none(with_value(slow_row(*RIGHT), at, 128))

    def test_any_integers(self):
        for many in (0, 1, 47, 48, 49, 96):
            for _ in range(20):
                self.assert_none(tuple(self.random.randint(-200, 200) for _ in range(many)))
                self.assert_none((128,) * (many > 0) + some_row(self.random, max(0, many - 1)))
                self.assert_none(tuple(self.random.randint(-10 ** 30, 10 ** 30) for _ in range(many)))
        self.assert_none((128,) * 48)
        self.assert_none((0,) * 48)

    def test_four_sum_symbols(self):
        row = slow_row(*RIGHT)
        for bit in range(28):
            symbols = list(row)
            symbols[47 - bit // 7] ^= 1 << bit % 7
            self.assert_none(symbols)
