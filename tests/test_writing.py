"""Promise [25]: played."""

import unittest

from mendvault.writing import played
from tests.helper import as_lists, fixed_random, raised
from tests.model import model_played


def row(number):
    """48 integers that tell themselves apart."""
    return (128,) + tuple((number + at) % 128 for at in range(47))


BLOCKS = (("block", 0, row(1)), ("block", 1, row(2)), ("block", 0, row(3)), ("block", 1, row(4)))


class PlayedTest(unittest.TestCase):
    def test_no_writes(self):
        for writes in ((), []):
            self.assertEqual(played(writes, 0, 0), ())

    def test_blocks(self):
        self.assertEqual(played(BLOCKS, 0, 0), ((), ()))
        self.assertEqual(played(BLOCKS, 1, 0), (row(1), ()))
        self.assertEqual(played(BLOCKS, 2, 0), (row(1), row(2)))
        self.assertEqual(played(BLOCKS, 3, 0), (row(1) + row(3), row(2)))
        self.assertEqual(played(BLOCKS, 4, 0), (row(1) + row(3), row(2) + row(4)))

    def test_each_part_of_a_block(self):
        for part in range(48):
            self.assertEqual(played(BLOCKS, 0, part), (row(1)[:part], ()))
            self.assertEqual(played(BLOCKS, 2, part), (row(1) + row(3)[:part], row(2)))
            self.assertEqual(played(BLOCKS, 3, part), (row(1) + row(3), row(2) + row(4)[:part]))

    def test_cuts(self):
        writes = BLOCKS + (("cut", 0, 48), ("cut", 1, 96), ("block", 1, row(5)), ("cut", 1, 10), ("cut", 0, 48))
        self.assertEqual(played(writes, 5, 0), (row(3), row(2) + row(4)))
        self.assertEqual(played(writes, 6, 0), (row(3), ()))
        self.assertEqual(played(writes, 7, 0), (row(3), row(5)))
        self.assertEqual(played(writes, 8, 0), (row(3), row(5)[10:]))
        self.assertEqual(played(writes, 9, 0), ((), row(5)[10:]))

    def test_of_a_cut_that_is_next_nothing_is_done(self):
        writes = BLOCKS + (("cut", 0, 48), ("block", 0, row(5)))
        for part in range(48):
            self.assertEqual(played(writes, 4, part), (row(1) + row(3), row(2) + row(4)))
        self.assertEqual(played(writes, 5, 7), (row(3) + row(5)[:7], row(2) + row(4)))

    def test_volumes_of_all_writes_are_there(self):
        writes = (("block", 4, row(1)), ("block", 2, row(2)))
        self.assertEqual(played(writes, 0, 0), ((),) * 5)
        self.assertEqual(played(writes, 1, 3), ((), (), row(2)[:3], (), row(1)))
        self.assertEqual(played((("block", 0, row(1)), ("cut", 0, 48)), 0, 0), ((),))

    def test_many_out_of_its_range(self):
        for many in (-1, 5, 6, 10 ** 30):
            for part in (0, 47, 48, -1):
                self.assertEqual(raised(played, BLOCKS, many, part), ("BadValue", 1))
        for many in (-1, 1):
            self.assertEqual(raised(played, (), many, 0), ("BadValue", 1))

    def test_part_out_of_its_range(self):
        for many in range(5):
            for part in (-1, 48, 49, 10 ** 30):
                self.assertEqual(raised(played, BLOCKS, many, part), ("BadValue", 2))
        writes = BLOCKS + (("cut", 0, 48),)
        for part in (-1, 48):
            self.assertEqual(raised(played, writes, 4, part), ("BadValue", 2))

    def test_part_where_no_write_is_next(self):
        for part in (1, 2, 47):
            self.assertEqual(raised(played, BLOCKS, 4, part), ("BadValue", 2))
            self.assertEqual(raised(played, (), 0, part), ("BadValue", 2))
            self.assertEqual(raised(played, BLOCKS + (("cut", 1, 48),), 5, part), ("BadValue", 2))

    def test_any_writes(self):
        random_source = fixed_random(25)
        for _ in range(50):
            writes, lengths = [], [0] * 4
            for _ in range(20):
                volume = random_source.randrange(4)
                if lengths[volume] and random_source.random() < 0.3:
                    writes.append(("cut", volume, random_source.randint(1, lengths[volume])))
                    lengths[volume] -= writes[-1][2]
                else:
                    writes.append(("block", volume, row(random_source.randrange(128))))
                    lengths[volume] += 48
            many = random_source.randrange(21)
            volumes = 1 + max(write[1] for write in writes)
            part = random_source.randrange(48) if many < 20 else 0
            torn = [("block", write[1], write[2][:part]) for write in writes[many:many + 1] if write[0] == "block"]
            expected = model_played(writes[:many] + torn, volumes)
            self.assertEqual(played(writes, many, part), expected)

    def test_lists(self):
        writes = as_lists(BLOCKS + (("cut", 0, 48),))
        result = played(writes, 5, 0)
        self.assertEqual(result, (row(3), row(2) + row(4)))
        self.assertEqual({type(volume) for volume in result} | {type(result)}, {tuple})
        self.assertEqual(writes, as_lists(BLOCKS + (("cut", 0, 48),)))
        writes[2][2][0] = 99
        self.assertEqual(result, (row(3), row(2) + row(4)))
