"""What promise [1] calls a sign, and the numbers that signs have."""

import unittest

from mendvault.signs import is_sign, symbols_of, text_of
from tests.helper import SIGNS


class SignsTest(unittest.TestCase):
    def test_there_are_95(self):
        self.assertEqual(len(set(SIGNS)), 95)

    def test_numbers_and_signs(self):
        for symbol in range(128):
            known = chr(symbol) in SIGNS
            self.assertIs(is_sign(symbol), known, symbol)
            self.assertEqual(text_of([symbol]), chr(symbol) if known else None)

    def test_there_and_back(self):
        self.assertEqual(symbols_of(SIGNS), [ord(sign) for sign in SIGNS])
        self.assertEqual(text_of(symbols_of(SIGNS)), SIGNS)
        self.assertEqual(text_of(()), "")

    def test_one_that_is_no_sign(self):
        for at in range(3):
            symbols = [65, 66, 67]
            symbols[at] = 37
            self.assertIsNone(text_of(symbols))
