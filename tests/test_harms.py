"""Promise [43]: harms."""

import unittest

from mendvault.harms import harmed
from tests.helper import as_lists, fixed_random, raised

VOLUMES = ((1, 2, 3, 4, 5), (6, 7), (), (8,))


def model_harmed(volumes, harms):
    """The volumes behind the harms, integer by integer; a number where that harm is none."""
    out = [list(volume) for volume in volumes]
    for at, (word, *rest) in enumerate(harms):
        named = rest[:2] if word == "turn" else rest[:1]
        if any(volume not in range(len(out)) for volume in named):
            return at
        if word == "lose":
            out[rest[0]] = []
        elif word == "change":
            volume, place, integers = rest
            if place < 0 or not 1 <= len(integers) <= 4 or any(each not in range(129) for each in integers):
                return at
            for step, integer in enumerate(integers):
                if place + step < len(out[volume]):
                    out[volume][place + step] = integer
        elif word == "cut":
            volume, begin, end = rest
            if not 0 <= begin <= end:
                return at
            out[volume] = [integer for step, integer in enumerate(out[volume]) if not begin <= step < end]
        elif word == "turn":
            out[rest[0]], out[rest[1]] = out[rest[1]], out[rest[0]]
        else:
            out.append(list(out[rest[0]]))
    return tuple(tuple(volume) for volume in out)


class HarmsTest(unittest.TestCase):
    def assert_harmed(self, harms, *expected):
        for volumes, each in ((VOLUMES, harms), (as_lists(VOLUMES), as_lists(harms)), (list(VOLUMES), list(harms))):
            result = harmed(volumes, each)
            self.assertEqual(result, expected)
            self.assertEqual({type(volume) for volume in result} | {type(result)}, {tuple})

    def assert_none(self, *harms):
        """The last one of the harms is none."""
        for behind in ((), (("lose", 0),), harms):
            self.assertEqual(raised(harmed, VOLUMES, harms + behind), ("BadValue", len(harms) - 1))
        self.assertEqual(raised(harmed, VOLUMES, (("lose", 2),) + harms), ("BadValue", len(harms)))

    def test_no_harms(self):
        self.assert_harmed((), *VOLUMES)
        self.assertEqual(harmed((), ()), ())
        self.assertEqual(harmed([], []), ())

    def test_lose(self):
        self.assert_harmed((("lose", 0),), (), *VOLUMES[1:])
        self.assert_harmed((("lose", 2),), *VOLUMES)
        self.assert_harmed((("lose", 3), ("lose", 3), ("lose", 1)), VOLUMES[0], (), (), ())

    def test_change(self):
        self.assert_harmed((("change", 0, 0, (9,)),), (9, 2, 3, 4, 5), *VOLUMES[1:])
        self.assert_harmed((("change", 0, 1, (0, 128, 127, 64)),), (1, 0, 128, 127, 64), *VOLUMES[1:])
        self.assert_harmed((("change", 0, 4, (9,)),), (1, 2, 3, 4, 9), *VOLUMES[1:])
        self.assert_harmed((("change", 1, 0, (9, 9)), ("change", 1, 1, (8,))), VOLUMES[0], (9, 8), *VOLUMES[2:])

    def test_change_beyond_the_end(self):
        self.assert_harmed((("change", 0, 3, (9, 8, 7, 6)),), (1, 2, 3, 9, 8), *VOLUMES[1:])
        self.assert_harmed((("change", 0, 4, (9, 8)),), (1, 2, 3, 4, 9), *VOLUMES[1:])
        self.assert_harmed((("change", 1, 0, (9, 8, 7, 6)),), VOLUMES[0], (9, 8), *VOLUMES[2:])
        for place in (5, 6, 7, 100, 10 ** 30):
            self.assert_harmed((("change", 0, place, (9, 8)),), *VOLUMES)
        for place in (0, 1, 5):
            self.assert_harmed((("change", 2, place, (9, 8)),), *VOLUMES)

    def test_cut(self):
        self.assert_harmed((("cut", 0, 1, 3),), (1, 4, 5), *VOLUMES[1:])
        self.assert_harmed((("cut", 0, 0, 5),), (), *VOLUMES[1:])
        self.assert_harmed((("cut", 0, 0, 1), ("cut", 0, 0, 1)), (3, 4, 5), *VOLUMES[1:])
        for begin in (0, 2, 5):
            self.assert_harmed((("cut", 0, begin, begin),), *VOLUMES)

    def test_cut_beyond_the_end(self):
        self.assert_harmed((("cut", 0, 3, 9),), (1, 2, 3), *VOLUMES[1:])
        self.assert_harmed((("cut", 0, 4, 10 ** 30),), (1, 2, 3, 4), *VOLUMES[1:])
        self.assert_harmed((("cut", 0, 0, 6),), (), *VOLUMES[1:])
        for begin, end in ((5, 6), (6, 6), (9, 10), (10 ** 30, 10 ** 31)):
            self.assert_harmed((("cut", 0, begin, end),), *VOLUMES)
        self.assert_harmed((("cut", 2, 0, 1),), *VOLUMES)

    def test_turn(self):
        self.assert_harmed((("turn", 0, 1),), VOLUMES[1], VOLUMES[0], *VOLUMES[2:])
        self.assert_harmed((("turn", 3, 0),), VOLUMES[3], VOLUMES[1], VOLUMES[2], VOLUMES[0])
        self.assert_harmed((("turn", 1, 1),), *VOLUMES)
        self.assert_harmed((("turn", 0, 1), ("turn", 1, 2)), VOLUMES[1], VOLUMES[2], VOLUMES[0], VOLUMES[3])

    def test_double(self):
        self.assert_harmed((("double", 0),), *VOLUMES, VOLUMES[0])
        self.assert_harmed((("double", 2), ("double", 1)), *VOLUMES, VOLUMES[2], VOLUMES[1])

    def test_volumes_are_named_by_their_places_then(self):
        self.assert_harmed((("double", 0), ("lose", 0), ("double", 4)), (), *VOLUMES[1:], VOLUMES[0], VOLUMES[0])
        self.assert_harmed((("turn", 0, 1), ("lose", 0)), (), VOLUMES[0], *VOLUMES[2:])
        self.assert_harmed((("cut", 0, 0, 2), ("change", 0, 0, (9,))), (9, 4, 5), *VOLUMES[1:])
        self.assert_harmed((("change", 0, 0, (9,)), ("cut", 0, 0, 2)), (3, 4, 5), *VOLUMES[1:])
        self.assert_harmed((("double", 3), ("change", 4, 0, (9,))), *VOLUMES, (9,))
        self.assert_none(("double", 0), ("lose", 5))

    def test_volumes_that_are_not_there(self):
        for volume in (-1, 4, 5, 10 ** 30):
            for harm in (("lose", volume), ("change", volume, 0, (1,)), ("cut", volume, 0, 1), ("turn", volume, 0),
                         ("turn", 0, volume), ("turn", volume, volume), ("double", volume)):
                self.assert_none(harm)
                self.assert_none(("lose", 0), ("turn", 1, 2), harm)
        for harm in (("lose", 0), ("change", 0, 0, (1,)), ("cut", 0, 0, 0), ("turn", 0, 0), ("double", 0)):
            self.assertEqual(raised(harmed, (), (harm,)), ("BadValue", 0))

    def test_a_begin_above_the_end_or_below_nought(self):
        for begin, end in ((1, 0), (3, 2), (9, 8), (-1, 0), (-1, 3), (-2, -1), (-1, -1), (0, -1), (10 ** 30, 5)):
            self.assert_none(("cut", 0, begin, end))

    def test_a_place_below_nought(self):
        for place in (-1, -5, -10 ** 30):
            self.assert_none(("change", 0, place, (1,)))

    def test_integers_that_are_none_such(self):
        for integers in ((), (1, 2, 3, 4, 5), (129,), (-1,), (1, 129), (1, 2, 3, -1), (0, 10 ** 30)):
            self.assert_none(("change", 0, 0, integers))
            self.assert_none(("change", 0, 9, integers))
            self.assert_none(("change", 0, 0, list(integers)))

    def test_the_first_one_is_told(self):
        harms = (("lose", 0), ("double", 1), ("lose", 4), ("lose", 5), ("cut", 0, 2, 1))
        self.assertEqual(raised(harmed, VOLUMES, harms), ("BadValue", 3))

    def test_the_volumes_stay_as_they_were(self):
        volumes, harms = as_lists(VOLUMES), [["change", 0, 0, [9, 9]], ["lose", 1], ["double", 0], ["turn", 0, 3]]
        result = harmed(volumes, harms)
        self.assertEqual((volumes, harms[0]), (as_lists(VOLUMES), ["change", 0, 0, [9, 9]]))
        volumes[3][0] = 99
        harms[0][3][0] = 99
        self.assertEqual(result, ((8,), (), (), (9, 9, 3, 4, 5), (9, 9, 3, 4, 5)))
        self.assertEqual(raised(harmed, volumes, [["lose", 0], ["lose", 9]]), ("BadValue", 1))
        self.assertEqual(volumes[0], [1, 2, 3, 4, 5])

    def test_any_harms(self):
        random_source = fixed_random(43)

        def number(most):
            return random_source.choice((-1, most, random_source.randrange(most), random_source.randrange(most)))

        outcomes = set()
        for _ in range(2000):
            harms = []
            for _ in range(random_source.randrange(5)):
                word = random_source.choice(("lose", "change", "cut", "turn", "double"))
                volume = random_source.randrange(4)
                volume = random_source.choice((volume, volume, volume, number(6)))
                integers = tuple(random_source.randrange(130) for _ in range(random_source.choice((0, 1, 2, 3, 4, 5))))
                rest = {"change": (abs(number(7)), integers), "cut": tuple(sorted((abs(number(7)), abs(number(7))))),
                        "turn": (random_source.randrange(4),)}.get(word, ())
                harms.append((word, volume, *rest))
            expected = model_harmed(VOLUMES, harms)
            outcomes.add(expected)
            if isinstance(expected, int):
                self.assertEqual(raised(harmed, VOLUMES, harms), ("BadValue", expected))
            else:
                self.assertEqual(harmed(VOLUMES, harms), expected)
        self.assertGreater(len(outcomes), 100)
