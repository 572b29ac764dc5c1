"""Promise [4]: the field of 128 elements."""

import unittest

from mendvault.errors import BadValue
from mendvault.field import MODULUS, added, inverse, logarithm, over, power, times
from tests.helper import slow_power, slow_times

SYMBOLS = range(128)


class FieldTest(unittest.TestCase):
    def test_modulus(self):
        self.assertEqual(MODULUS, 131)
        self.assertIs(type(MODULUS), int)

    def test_added_is_bit_by_bit(self):
        self.assertEqual(added(0, 0), 0)
        self.assertEqual(added(127, 127), 0)
        self.assertEqual(added(0b1100, 0b1010), 0b0110)
        for a in SYMBOLS:
            for b in SYMBOLS:
                bits = [(a // 2 ** i + b // 2 ** i) % 2 * 2 ** i for i in range(7)]
                self.assertEqual(added(a, b), sum(bits))

    def test_times_by_hand(self):
        self.assertEqual(times(2, 64), 3)
        self.assertEqual(times(3, 3), 5)
        self.assertEqual(times(64, 64), 96)
        self.assertEqual(times(1, 127), 127)
        self.assertEqual(times(0, 127), 0)
        self.assertEqual(times(127, 0), 0)
        self.assertEqual(times(0, 0), 0)

    def test_times_bit_by_bit(self):
        for a in SYMBOLS:
            for b in SYMBOLS:
                self.assertEqual(times(a, b), slow_times(a, b))

    def test_products_spread_over_sums(self):
        for a in range(0, 128, 5):
            for b in range(0, 128, 7):
                for c in SYMBOLS:
                    self.assertEqual(times(a, added(b, c)), added(times(a, b), times(a, c)))
                    self.assertEqual(times(a, times(b, c)), times(times(a, b), c))

    def test_inverse(self):
        self.assertEqual(inverse(1), 1)
        for a in range(1, 128):
            self.assertIn(inverse(a), SYMBOLS)
            self.assertEqual(slow_times(a, inverse(a)), 1)

    def test_no_inverse_of_nought(self):
        with self.assertRaises(BadValue) as caught:
            inverse(0)
        self.assertEqual(caught.exception.at, 0)

    def test_over(self):
        for a in SYMBOLS:
            for b in range(1, 128):
                self.assertIn(over(a, b), SYMBOLS)
                self.assertEqual(slow_times(over(a, b), b), a)

    def test_nothing_over_nought(self):
        for a in (0, 1, 127):
            with self.subTest(a):
                with self.assertRaises(BadValue) as caught:
                    over(a, 0)
                self.assertEqual(caught.exception.at, 1)

    def test_power(self):
        for a in SYMBOLS:
            product = 1
            for n in range(260):
                self.assertEqual(power(a, n), product)
                product = slow_times(product, a)

    def test_power_of_nought(self):
        self.assertEqual(power(0, 0), 1)
        self.assertEqual(power(127, 0), 1)
        for n in (1, 2, 127, 999, 1000):
            self.assertEqual(power(0, n), 0)

    def test_powers_up_to_a_thousand(self):
        for a in (0, 1, 2, 3, 64, 126, 127):
            for n in (126, 127, 128, 254, 999, 1000, 1001):
                self.assertEqual(power(a, n), slow_power(a, n))

    def test_powers_of_two_are_all_but_nought(self):
        self.assertEqual(sorted(power(2, n) for n in range(127)), list(range(1, 128)))

    def test_logarithm(self):
        self.assertEqual(logarithm(1), 0)
        self.assertEqual(logarithm(2), 1)
        self.assertEqual(logarithm(3), 7)
        for a in range(1, 128):
            least = next(n for n in range(127) if slow_power(2, n) == a)
            self.assertEqual(logarithm(a), least)

    def test_no_logarithm_of_nought(self):
        with self.assertRaises(BadValue) as caught:
            logarithm(0)
        self.assertEqual(caught.exception.at, 0)
