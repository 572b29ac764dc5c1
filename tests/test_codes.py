"""Promises [6], [7], [8]: codes."""

import itertools
import unittest

from mendvault.codes import corrected, encoded, filled, weights
from mendvault.errors import Beyond
from tests.helper import (
    SIZES,
    changed_at,
    fixed_random,
    slow_near,
    slow_times,
    slow_word,
    some_polynomial,
    some_row,
    some_word,
    without,
)


class CodesTest(unittest.TestCase):
    def setUp(self):
        self.random = fixed_random(8)

    def assert_beyond(self, word, function, symbols, k):
        with self.assertRaises(Beyond) as caught:
            function(symbols, k)
        self.assertEqual(caught.exception.word, word)

    def some_places(self, places, many):
        return sorted(self.random.sample(list(places), many))


class EncodedTest(CodesTest):
    def test_by_hand(self):
        self.assertEqual(encoded((5,), 0), (5,))
        self.assertEqual(encoded((5,), 3), (5, 5, 5, 5))
        self.assertEqual(encoded((0, 1), 4), (0, 1, 2, 3, 4, 5))
        self.assertEqual(encoded((127, 126), 2), (127, 126, 125, 124))
        self.assertEqual(encoded((0, 1, 4), 2), (0, 1, 4, 5, 16))
        self.assertEqual(encoded((0, 0, 0), 3), (0,) * 6)
        self.assertEqual(encoded((127,), 15), (127,) * 16)

    def test_words_are_values_of_polynomials(self):
        for k, r in SIZES:
            p = some_polynomial(self.random, k)
            word = slow_word(p, k + r)
            self.assertEqual(encoded(word[:k], r), word)

    def test_words_of_full_degree(self):
        for k, r in SIZES:
            p = some_row(self.random, k - 1) + (127,)
            word = slow_word(p, k + r)
            self.assertEqual(encoded(word[:k], r), word)

    def test_begins_with_the_data(self):
        for k, r in SIZES:
            data = some_row(self.random, k)
            word = encoded(data, r)
            self.assertEqual(word[:k], data)
            self.assertEqual(len(word), k + r)


class FilledTest(CodesTest):
    def test_by_hand(self):
        self.assertEqual(filled((None, 5, None), 1), (5, 5, 5))
        self.assertEqual(filled((None, None, 2, 3), 2), (0, 1, 2, 3))
        self.assertEqual(filled((0, None, 0, None), 2), (0, 0, 0, 0))
        self.assertEqual(filled((None, 127, None, 127), 2), (127, 127, 127, 127))

    def test_any_k_symbols_determine_the_word(self):
        for k, r in ((1, 4), (2, 2), (3, 3), (4, 4), (6, 4), (5, 0)):
            word = some_word(self.random, k, r)
            for lost in itertools.combinations(range(k + r), r):
                self.assertEqual(filled(without(word, lost), k), word)

    def test_each_number_of_lost_symbols(self):
        for k, r in SIZES:
            word = some_word(self.random, k, r)
            for many in range(r + 1):
                lost = self.some_places(range(k + r), many)
                self.assertEqual(filled(without(word, lost), k), word)

    def test_one_more_lost(self):
        for k, r in SIZES:
            word = some_word(self.random, k, r)
            lost = self.some_places(range(k + r), r + 1)
            self.assert_beyond("lost", filled, without(word, lost), k)

    def test_all_lost(self):
        self.assert_beyond("lost", filled, (None,), 1)
        self.assert_beyond("lost", filled, (None,) * 16, 3)

    def test_k_symbols_are_always_of_a_word(self):
        for k, r in SIZES:
            lost = self.some_places(range(k + r), r)
            symbols = without(some_row(self.random, k + r), lost)
            word = filled(symbols, k)
            self.assertEqual(without(word, lost), symbols)
            self.assertEqual(encoded(word[:k], r), word)

    def test_symbols_of_no_word(self):
        for k, r in SIZES:
            for many in range(r):
                lost = self.some_places(range(k + r), many)
                word = without(some_word(self.random, k, r), lost)
                for at in range(k + r):
                    if at not in lost:
                        self.assert_beyond("parted", filled, changed_at(word, (at,), self.random), k)

    def test_parted_by_hand(self):
        self.assert_beyond("parted", filled, (5, 5, 4), 1)
        self.assert_beyond("parted", filled, (None, 0, 1), 1)
        self.assert_beyond("parted", filled, (0, 1, 2, 4), 2)
        self.assertEqual(filled((0, 1, None, 3), 2), (0, 1, 2, 3))

    def test_lost_comes_ahead_of_parted(self):
        self.assert_beyond("lost", filled, (0, None, 9, None), 3)


class CorrectedTest(CodesTest):
    def test_by_hand(self):
        self.assertEqual(corrected((5, 5, 4), 1), ((5, 5, 5), (2,)))
        self.assertEqual(corrected((0, 1, 9, 3), 2), ((0, 1, 2, 3), (2,)))
        self.assertEqual(corrected((127, 1, 2, None, 4, 5), 2), ((0, 1, 2, 3, 4, 5), (0,)))
        self.assertEqual(corrected((0, 0, 0, 127, 127, 0, 0), 3), ((0,) * 7, (3, 4)))

    def test_nothing_changed(self):
        for k, r in SIZES:
            word = some_word(self.random, k, r)
            for many in range(r + 1):
                lost = self.some_places(range(k + r), many)
                self.assertEqual(corrected(without(word, lost), k), (word, ()))

    def test_nothing_changed_in_the_word_of_noughts(self):
        for k, r in SIZES:
            self.assertEqual(corrected((0,) * (k + r), k), ((0,) * (k + r), ()))

    def test_as_many_changed_as_the_bound_lets(self):
        for k, r in SIZES:
            for many in range(r + 1):
                word = some_word(self.random, k, r)
                lost = self.some_places(range(k + r), many)
                rest = [at for at in range(k + r) if at not in lost]
                for changes in range((len(rest) - k) // 2 + 1):
                    changed = self.some_places(rest, changes)
                    symbols = changed_at(without(word, lost), changed, self.random)
                    self.assertEqual(corrected(symbols, k), (word, tuple(changed)))

    def test_every_choice_of_two_changed(self):
        word = some_word(self.random, 4, 4)
        for changed in itertools.combinations(range(8), 2):
            self.assertEqual(corrected(changed_at(word, changed, self.random), 4), (word, changed))

    def test_one_more_changed_is_far(self):
        # Where g - k is odd, no other word can be within the bound then.
        for k, r in SIZES:
            for many in range(r):
                if (r - many) % 2 == 0:
                    continue
                lost = self.some_places(range(k + r), many)
                rest = [at for at in range(k + r) if at not in lost]
                changed = self.some_places(rest, (len(rest) - k) // 2 + 1)
                symbols = changed_at(without(some_word(self.random, k, r), lost), changed, self.random)
                self.assert_beyond("far", corrected, symbols, k)

    def test_far_by_hand(self):
        self.assert_beyond("far", corrected, (5, 6), 1)
        self.assert_beyond("far", corrected, (5, 6, 7), 1)
        self.assert_beyond("far", corrected, (5, 5, 6, 6), 1)
        self.assert_beyond("far", corrected, (5, None, 6, None), 1)
        self.assert_beyond("far", corrected, (0, 1, 9), 2)

    def test_it_is_the_word_that_a_search_finds(self):
        outcomes = {0: 0, 1: 0}
        for k, r in ((1, 2), (1, 5), (2, 2), (2, 4), (3, 2), (3, 4), (4, 4), (5, 3)):
            for changes in range(r + 1):
                symbols = changed_at(some_word(self.random, k, r), self.some_places(range(k + r), changes), self.random)
                symbols = without(symbols, self.some_places(range(k + r), self.random.choice((0, 0, 1))))
                given = sum(symbol is not None for symbol in symbols)
                near = slow_near(symbols, k, (given - k) // 2)
                outcomes[len(near)] += 1
                if near:
                    self.assertEqual(corrected(symbols, k), near[0])
                else:
                    self.assert_beyond("far", corrected, symbols, k)
        self.assertGreater(min(outcomes.values()), 5)

    def test_few_symbols_of_small_numbers(self):
        for symbols in itertools.product((0, 1, 2, 3, None), repeat=5):
            given = sum(symbol is not None for symbol in symbols)
            if given < 1:
                self.assert_beyond("lost", corrected, symbols, 1)
                continue
            often = [x for x in range(4) if given - symbols.count(x) <= (given - 1) // 2]
            if often:
                changed = tuple(at for at in range(5) if symbols[at] not in (None, often[0]))
                self.assertEqual(corrected(symbols, 1), ((often[0],) * 5, changed))
            else:
                self.assert_beyond("far", corrected, symbols, 1)

    def test_as_many_lost_as_may_be(self):
        for k, r in SIZES:
            lost = self.some_places(range(k + r), r)
            symbols = without(some_row(self.random, k + r), lost)
            word, changed = corrected(symbols, k)
            self.assertEqual((without(word, lost), changed), (symbols, ()))
            self.assertEqual(encoded(word[:k], r), word)

    def test_one_more_lost(self):
        for k, r in SIZES:
            lost = self.some_places(range(k + r), r + 1)
            self.assert_beyond("lost", corrected, without(some_row(self.random, k + r), lost), k)

    def test_lost_comes_ahead_of_far(self):
        self.assert_beyond("lost", corrected, (0, None, 9, None), 3)


class WeightsTest(CodesTest):
    def test_they_give_the_symbols_of_words(self):
        for k, r in SIZES:
            word = some_word(self.random, k, r)
            places = self.random.sample(range(k + r), k)
            for x in range(k + r):
                symbol = 0
                for place, weight in zip(places, weights(places, x)):
                    symbol ^= slow_times(word[place], weight)
                self.assertEqual(symbol, word[x])

    def test_at_one_of_the_places(self):
        self.assertEqual(weights((3, 5, 0), 5), (0, 1, 0))
        self.assertEqual(weights([7], 9), (1,))


# The cases stand in the classes above; the one that they share has none.
del CodesTest
