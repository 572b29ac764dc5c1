"""Promises [9], [10]: sums."""

import unittest

from mendvault.sums import joined, sum_row, summed, text_sum
from tests.helper import SIGNS, fixed_random, slow_sum, slow_sum_row, some_row, some_text


def bit_sum(row):
    """The sum in the document's other words."""
    rest = 2 ** 28 - 1
    for symbol in row:
        for bit in range(6, -1, -1):
            turned = rest >> 27 ^ symbol >> bit & 1
            rest = rest << 1 & 2 ** 28 - 1
            if turned:
                rest ^= 9
    return rest


class SumsTest(unittest.TestCase):
    def setUp(self):
        self.random = fixed_random(9)


class SummedTest(SumsTest):
    def test_by_hand(self):
        self.assertEqual(summed(()), 268435455)
        # The bits turned over are all noughts.
        self.assertEqual(summed((127, 127, 127, 127)), 0)
        # The bits turned over are those of 1, times x ** 28.
        self.assertEqual(summed((127, 127, 127, 126)), 9)
        self.assertEqual(summed((127, 127, 127, 63)), 64 * 9)
        self.assertEqual(summed((63, 127, 127, 127)), 2 ** 27 * 8 % 2 ** 28 ^ 4 * 9 ^ 2 ** 27)
        self.assertEqual(summed((127, 127, 127, 127, 0, 0)), 0)
        self.assertEqual(summed((127, 127, 127, 127, 1)), 9)

    def test_ordinary_rows(self):
        for many in list(range(100)) + [1000]:
            row = some_row(self.random, many)
            self.assertEqual(summed(row), slow_sum(row))
            self.assertEqual(summed(row), bit_sum(row))

    def test_every_row_of_one_symbol(self):
        for symbol in range(128):
            self.assertEqual(summed((symbol,)), slow_sum((symbol,)))

    def test_rows_of_one_symbol_many_times(self):
        for symbol in (0, 1, 64, 127):
            for many in range(1, 50):
                self.assertEqual(summed((symbol,) * many), slow_sum((symbol,) * many))

    def test_a_nought_at_either_end_tells(self):
        row = some_row(self.random, 9)
        self.assertEqual(len({summed(row), summed((0,) + row), summed(row + (0,))}), 3)


class JoinedTest(SumsTest):
    def test_ordinary_rows(self):
        for one in range(12):
            for other in range(12):
                x, y = some_row(self.random, one), some_row(self.random, other)
                self.assertEqual(joined(summed(x), summed(y), other), summed(x + y))

    def test_nothing_behind(self):
        for sum_ in (0, 1, 2 ** 27, 2 ** 28 - 1, 123456789):
            self.assertEqual(joined(sum_, summed(()), 0), sum_)

    def test_nothing_ahead(self):
        for sum_ in (0, 1, 2 ** 27, 2 ** 28 - 1, 123456789):
            for length in (0, 1, 5, 4000):
                self.assertEqual(joined(summed(()), sum_, length), sum_)

    def test_sums_that_are_nought(self):
        ones = (127,) * 4
        self.assertEqual(joined(0, 0, 4), slow_sum(ones + ones))
        y = some_row(self.random, 20)
        self.assertEqual(joined(0, summed(y), 20), slow_sum(ones + y))
        self.assertEqual(joined(summed(y), 0, 4), slow_sum(y + ones))

    def test_long_rows(self):
        x = some_row(self.random, 4000)
        for length in (3999, 4000):
            y = some_row(self.random, length)
            self.assertEqual(joined(summed(x), summed(y), length), summed(x + y))
            self.assertEqual(joined(summed(()), summed(y), length), summed(y))


class SumRowTest(SumsTest):
    def test_by_hand(self):
        self.assertEqual(sum_row(0), (0, 0, 0, 0))
        self.assertEqual(sum_row(2 ** 28 - 1), (127, 127, 127, 127))
        self.assertEqual(sum_row(1), (0, 0, 0, 1))
        self.assertEqual(sum_row(128), (0, 0, 1, 0))
        self.assertEqual(sum_row(128 ** 2), (0, 1, 0, 0))
        self.assertEqual(sum_row(128 ** 3), (1, 0, 0, 0))
        self.assertEqual(sum_row(128 ** 3 * 4 + 128 ** 2 * 3 + 128 * 2 + 1), (4, 3, 2, 1))

    def test_ordinary_sums(self):
        for many in range(50):
            row = some_row(self.random, many)
            self.assertEqual(sum_row(summed(row)), slow_sum_row(row))

    def test_each_bit(self):
        for bit in range(28):
            symbols = [0] * 4
            symbols[3 - bit // 7] = 2 ** (bit % 7)
            self.assertEqual(sum_row(2 ** bit), tuple(symbols))


class TextSumTest(SumsTest):
    def test_by_hand(self):
        self.assertEqual(text_sum(""), 268435455)
        self.assertEqual(text_sum("A"), slow_sum((65,)))
        self.assertEqual(text_sum("\n"), slow_sum((10,)))
        self.assertEqual(text_sum(" ~"), slow_sum((32, 126)))

    def test_every_sign(self):
        for sign in SIGNS:
            self.assertEqual(text_sum(sign + "a"), slow_sum((ord(sign), 97)))

    def test_ordinary_texts(self):
        for many in (2, 10, 400, 3000):
            text = some_text(self.random, many)
            self.assertEqual(text_sum(text), slow_sum([ord(sign) for sign in text]))


class DamageTest(SumsTest):
    """Promise [10]."""

    def some_other(self, row, begin, end):
        """The row with other symbols, at least one, from begin to end - 1."""
        while True:
            other = row[:begin] + some_row(self.random, end - begin) + row[end:]
            if other != row:
                return other

    def test_each_other_symbol_has_another_sum(self):
        row = some_row(self.random, 9)
        for at in range(9):
            sums = {summed(row[:at] + (symbol,) + row[at + 1:]) for symbol in range(128)}
            self.assertEqual(len(sums), 128)

    def test_within_four_symbols(self):
        for many in (1, 2, 3, 4, 5, 43, 200):
            row = some_row(self.random, many)
            for begin in range(many):
                for end in range(begin + 1, min(begin + 4, many) + 1):
                    for _ in range(5):
                        self.assertNotEqual(summed(self.some_other(row, begin, end)), summed(row))

    def test_all_pairs_of_bits_within_28(self):
        row = (85,) * 6
        bits = [(0,)] + [(0, bit) for bit in range(1, 28)]
        sums = set()
        for places in bits:
            other = list(row)
            for place in places:
                other[place // 7] ^= 64 >> place % 7
            sums.add(summed(other))
        self.assertEqual(len(sums), 28)
        self.assertNotIn(summed(row), sums)

    def test_with_the_sum_behind_within_four_symbols(self):
        for many in (0, 1, 3, 4, 43):
            row = some_row(self.random, many)
            right = row + sum_row(summed(row))
            for begin in range(many + 4):
                for end in range(begin + 1, min(begin + 4, many + 4) + 1):
                    for _ in range(5):
                        wrong = self.some_other(right, begin, end)
                        self.assertNotEqual(sum_row(summed(wrong[:many])), wrong[many:])


# The cases stand in the classes above; the one that they share has none.
del SumsTest
