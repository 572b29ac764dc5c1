"""Promises [13], [14]: finding."""

import unittest

from mendvault.blocks import Block
from mendvault.finding import found, gaps
from tests.helper import LAYOUTS, fixed_random, some_row


def some_block(random_source):
    k, r = random_source.choice(LAYOUTS)
    numbers = [random_source.randrange(16384) for _ in range(3)]
    used = random_source.randint(1, 31 * k)
    payload = some_row(random_source, 31)
    return Block(random_source.randrange(k + r), k, r, numbers[0], numbers[1], used, 1, numbers[2], payload)


def laid(parts):
    """A piece of blocks and of rows between them; where the blocks stand, and where the rows do."""
    piece, places, runs = (), [], []
    for part in parts:
        begin = len(piece)
        if isinstance(part, Block):
            places.append((begin, part))
            piece += part.row()
        else:
            piece += tuple(part)
            if runs and runs[-1][1] == begin:
                runs[-1] = (runs[-1][0], len(piece))
            elif len(part) > 0:
                runs.append((begin, len(piece)))
    return piece, tuple(places), tuple(runs)


class FindingTest(unittest.TestCase):
    def setUp(self):
        self.random = fixed_random(13)
        self.blocks = [some_block(self.random) for _ in range(6)]

    def assert_found(self, parts):
        piece, places, runs = laid(parts)
        for each in (piece, list(piece)):
            self.assertEqual(found(each), places)
            self.assertEqual(gaps(each), runs)

    def test_nothing(self):
        for piece in ((), []):
            self.assertEqual(found(piece), ())
            self.assertEqual(gaps(piece), ())

    def test_no_block(self):
        for integer in (0, 1, 127, 128):
            for many in (1, 2, 47, 48, 49, 100):
                self.assert_found([(integer,) * many])

    def test_kinds(self):
        pairs = found(self.blocks[0].row())
        self.assertIs(type(pairs), tuple)
        self.assertIs(type(pairs[0]), tuple)
        self.assertIs(type(pairs[0][0]), int)
        self.assertIs(type(pairs[0][1]), Block)
        runs = gaps([5])
        self.assertEqual(runs, ((0, 1),))
        self.assertIs(type(runs), tuple)
        self.assertIs(type(runs[0]), tuple)

    def test_whole_blocks(self):
        for many in range(1, 7):
            self.assert_found(self.blocks[:many])
        self.assert_found([self.blocks[0]] * 3)

    def test_gaps_ahead(self):
        for many in (1, 2, 47, 48, 49):
            for integer in (0, 127, 128):
                self.assert_found([(integer,) * many, self.blocks[0]])

    def test_gaps_between(self):
        for many in (1, 2, 47, 48, 49):
            for integer in (0, 127, 128):
                self.assert_found([self.blocks[0], (integer,) * many, self.blocks[1]])

    def test_gaps_behind(self):
        for many in (1, 2, 47, 48, 49):
            for integer in (0, 127, 128):
                self.assert_found([self.blocks[0], (integer,) * many])

    def test_gaps_everywhere(self):
        gap = (1, 128, 3)
        one, two, three = self.blocks[:3]
        self.assert_found([gap, one, gap, two, three, gap])
        self.assert_found([gap, one, two, gap, three])

    def test_marks_ahead(self):
        for many in range(1, 60):
            self.assert_found([(128,) * many, self.blocks[0], (128,) * many, self.blocks[1]])
            self.assert_found([(128,) + (0,) * many, self.blocks[0]])

    def test_parts_of_blocks(self):
        row = self.blocks[0].row()
        for many in range(1, 48):
            self.assert_found([row[:many], self.blocks[1]])
            self.assert_found([row[many:], self.blocks[1]])
            self.assert_found([self.blocks[1], row[:many]])
            self.assert_found([self.blocks[1], row[many:]])
            self.assert_found([row[:many], self.blocks[1], row[many:]])
            self.assert_found([row[:many]])
            self.assert_found([row[many:]])

    def test_any_parts(self):
        for _ in range(200):
            parts = []
            for _ in range(self.random.randrange(8)):
                if self.random.random() < 0.5:
                    parts.append(self.random.choice(self.blocks))
                else:
                    parts.append([self.random.randrange(129) for _ in range(self.random.randrange(100))])
            self.assert_found(parts)

    def test_volumes_of_many_blocks(self):
        self.assert_found([some_block(self.random) for _ in range(300)])


class DamageTest(unittest.TestCase):
    """Promise [14]: what damage within the bound leaves is found, and no other block."""

    def setUp(self):
        self.random = fixed_random(14)
        self.blocks = [some_block(self.random) for _ in range(5)]

    def assert_left(self, piece, blocks):
        pairs = found(piece)
        self.assertEqual([block for _, block in pairs], list(blocks))
        for place, block in pairs:
            self.assertEqual(tuple(piece[place:place + 48]), block.row())
        ends = [0] + [place + 48 for place, _ in pairs]
        begins = [place for place, _ in pairs] + [len(piece)]
        self.assertEqual(gaps(piece), tuple(run for run in zip(ends, begins) if run[0] < run[1]))

    def some_change(self, row):
        """The row with one to four integers that stand side by side changed, at least one to another one."""
        many = self.random.randint(1, 4)
        begin = self.random.randrange(len(row) - many + 1)
        while True:
            integers = tuple(self.random.choice((0, 128, self.random.randrange(129))) for _ in range(many))
            if integers != row[begin:begin + many]:
                return row[:begin] + integers + row[begin + many:]

    def test_one_integer_changed_at_every_place(self):
        one, two, three = [block.row() for block in self.blocks[:3]]
        for at in range(48):
            for integer in range(129):
                if integer != two[at]:
                    changed = two[:at] + (integer,) + two[at + 1:]
                    self.assert_left(one + changed + three, (self.blocks[0], self.blocks[2]))

    def test_up_to_four_changed_at_every_place(self):
        one, two, three = [block.row() for block in self.blocks[:3]]
        for begin in range(48):
            for end in range(begin + 1, min(begin + 4, 48) + 1):
                for integer in (0, 1, 127, 128):
                    integers = (integer,) * (end - begin)
                    if integers == two[begin:end]:
                        continue
                    changed = two[:begin] + integers + two[end:]
                    self.assert_left(one + changed + three, (self.blocks[0], self.blocks[2]))
                    self.assert_left(changed + three, (self.blocks[2],))
                    self.assert_left(one + changed, (self.blocks[0],))
                    self.assert_left(changed, ())

    def test_other_integers_at_any_place(self):
        row = self.blocks[0].row()
        for _ in range(3000):
            self.assert_left(self.some_change(row), ())

    def test_cut_from_the_beginning_of_a_block(self):
        piece = sum([block.row() for block in self.blocks], ())
        for block in range(5):
            for end in range(48 * block + 1, len(piece) + 1):
                left = piece[:48 * block] + piece[end:]
                self.assert_left(left, self.blocks[:block] + self.blocks[-(-end // 48):])

    def test_cut_up_to_the_end_of_a_block(self):
        piece = sum([block.row() for block in self.blocks], ())
        for block in range(5):
            for begin in range(48 * block + 48):
                left = piece[:begin] + piece[48 * block + 48:]
                self.assert_left(left, self.blocks[:begin // 48] + self.blocks[block + 1:])

    def test_cut_within_a_block(self):
        one, two, three = [block.row() for block in self.blocks[:3]]
        for begin in range(48):
            for end in range(begin + 1, 49):
                left = one + two[:begin] + two[end:] + three
                self.assert_left(left, (self.blocks[0], self.blocks[2]))

    def test_several(self):
        for _ in range(200):
            blocks = [some_block(self.random) for _ in range(12)]
            piece, left, at = (), [], 0
            while at < 12:
                row = blocks[at].row()
                some = self.random.randrange(4)
                if some == 0:
                    piece += self.some_change(row)
                elif some == 1:
                    piece += row[self.random.randint(1, 48):]
                elif some == 2:
                    piece += row[:self.random.randint(0, 47)]
                else:
                    left.append(blocks[at])
                    piece += row
                # The next one stays as it is.
                if at + 1 < 12:
                    left.append(blocks[at + 1])
                    piece += blocks[at + 1].row()
                at += 2
            self.assert_left(piece, left)
