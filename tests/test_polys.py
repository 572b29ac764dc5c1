"""Promise [5]: polynomials."""

import unittest

from mendvault.errors import BadValue
from mendvault.polys import poly_added, poly_divided, poly_through, poly_times, poly_value, trimmed
from tests.helper import fixed_random, slow_times, slow_value, some_polynomial


def slow_added(p, q):
    many = max(len(p), len(q))
    return cut([(p[i] if i < len(p) else 0) ^ (q[i] if i < len(q) else 0) for i in range(many)])


def slow_product(p, q):
    """Coefficient by coefficient of the product."""
    row = []
    for n in range(len(p) + len(q)):
        coefficient = 0
        for i in range(n + 1):
            if i < len(p) and n - i < len(q):
                coefficient ^= slow_times(p[i], q[n - i])
        row.append(coefficient)
    return cut(row)


def cut(row):
    row = list(row)
    while row and row[-1] == 0:
        row.pop()
    return tuple(row)


class PolysTest(unittest.TestCase):
    def setUp(self):
        self.random = fixed_random(5)
        self.polynomials = [(), (1,), (127,), (0, 1), (1, 1), (0, 0, 127), (127, 0, 0, 1)]
        self.polynomials += [some_polynomial(self.random, 12) for _ in range(20)]

    def test_trimmed(self):
        self.assertEqual(trimmed(()), ())
        self.assertEqual(trimmed((0,)), ())
        self.assertEqual(trimmed((0, 0, 0)), ())
        self.assertEqual(trimmed((0, 5)), (0, 5))
        self.assertEqual(trimmed((0, 5, 0, 0)), (0, 5))
        self.assertEqual(trimmed((1, 0, 127)), (1, 0, 127))
        self.assertEqual(trimmed([0, 0, 127, 0]), (0, 0, 127))

    def test_added_by_hand(self):
        self.assertEqual(poly_added((), ()), ())
        self.assertEqual(poly_added((1, 2), ()), (1, 2))
        self.assertEqual(poly_added((), (1, 2)), (1, 2))
        self.assertEqual(poly_added((1, 2, 3), (1, 2, 3)), ())
        self.assertEqual(poly_added((1, 2, 3), (4, 2, 3)), (5,))
        self.assertEqual(poly_added((1,), (1, 0, 3)), (0, 0, 3))
        self.assertEqual(poly_added((1, 0, 3), (1,)), (0, 0, 3))

    def test_added(self):
        for p in self.polynomials:
            for q in self.polynomials:
                self.assertEqual(poly_added(p, q), slow_added(p, q))

    def test_times_by_hand(self):
        self.assertEqual(poly_times((), ()), ())
        self.assertEqual(poly_times((1, 2), ()), ())
        self.assertEqual(poly_times((), (1, 2)), ())
        self.assertEqual(poly_times((1,), (1, 2)), (1, 2))
        self.assertEqual(poly_times((1, 1), (1, 1)), (1, 0, 1))
        self.assertEqual(poly_times((0, 64), (0, 2)), (0, 0, 3))

    def test_times(self):
        for p in self.polynomials:
            for q in self.polynomials:
                self.assertEqual(poly_times(p, q), slow_product(p, q))

    def test_value_by_hand(self):
        self.assertEqual(poly_value((), 0), 0)
        self.assertEqual(poly_value((), 127), 0)
        self.assertEqual(poly_value((5,), 0), 5)
        self.assertEqual(poly_value((5,), 127), 5)
        self.assertEqual(poly_value((5, 7), 0), 5)
        self.assertEqual(poly_value((5, 7), 1), 2)
        self.assertEqual(poly_value((1, 0, 1), 8), 65)

    def test_value(self):
        for p in self.polynomials:
            for x in range(128):
                self.assertEqual(poly_value(p, x), slow_value(p, x))

    def test_divided_by_hand(self):
        self.assertEqual(poly_divided((), (1,)), ((), ()))
        self.assertEqual(poly_divided((), (1, 2)), ((), ()))
        self.assertEqual(poly_divided((4, 6), (2,)), ((2, 3), ()))
        self.assertEqual(poly_divided((7, 9), (1, 2, 3)), ((), (7, 9)))
        self.assertEqual(poly_divided((1, 0, 1), (1, 1)), ((1, 1), ()))
        self.assertEqual(poly_divided((0, 0, 1), (1, 1)), ((1, 1), (1,)))
        self.assertEqual(poly_divided((9, 0, 0, 1), (0, 0, 1)), ((0, 1), (9,)))

    def test_divided(self):
        for p in self.polynomials:
            for q in self.polynomials:
                if q == ():
                    continue
                quotient, rest = poly_divided(p, q)
                self.assertLess(len(rest), len(q))
                self.assertEqual(slow_added(slow_product(q, quotient), rest), p)
                self.assertEqual((quotient, rest), (cut(quotient), cut(rest)))

    def test_nothing_divided_by_nought(self):
        for p in ((), (1,), (1, 2, 3)):
            for q in ((), []):
                with self.subTest(p=p, q=q):
                    with self.assertRaises(BadValue) as caught:
                        poly_divided(p, q)
                    self.assertEqual(caught.exception.at, 1)

    def test_through_by_hand(self):
        self.assertEqual(poly_through(()), ())
        self.assertEqual(poly_through(((0, 0),)), ())
        self.assertEqual(poly_through(((127, 5),)), (5,))
        self.assertEqual(poly_through(((0, 1), (1, 0))), (1, 1))
        self.assertEqual(poly_through(((5, 5), (9, 9), (127, 127))), (0, 1))
        self.assertEqual(poly_through(((3, 0), (4, 0), (0, 0))), ())

    def test_through_is_the_one_polynomial(self):
        for p in self.polynomials:
            for more in (0, 1, 4):
                places = self.random.sample(range(128), len(p) + more)
                points = tuple((x, slow_value(p, x)) for x in places)
                self.assertEqual(poly_through(points), p)

    def test_through_has_the_values(self):
        for many in range(1, 17):
            places = self.random.sample(range(128), many)
            points = tuple((x, self.random.randrange(128)) for x in places)
            p = poly_through(points)
            self.assertLessEqual(len(p), many)
            self.assertEqual(p, cut(p))
            self.assertEqual(points, tuple((x, slow_value(p, x)) for x in places))

    def test_through_all_symbols(self):
        points = tuple((x, 127 - x) for x in range(128))
        self.assertEqual(poly_through(points), (127, 1))

    def test_no_place_stands_twice(self):
        twice = (
            ((0, 1), (0, 2)),
            ((5, 1), (5, 1)),
            ((1, 2), (127, 3), (2, 4), (127, 5)),
            ((1, 0), (2, 0), (1, 0)),
            [[3, 1], [3, 2]],
        )
        for points in twice:
            with self.subTest(points):
                with self.assertRaises(BadValue) as caught:
                    poly_through(points)
                self.assertEqual(caught.exception.at, 0)
