import copy
import unittest
from random import Random

from helping import HALF, NONE, ONE
from scenemend.cells import blocks_of, cells_of
from scenemend.changed import changed_blocks


class ChangedBlocksTest(unittest.TestCase):
    def test_alike(self):
        for picture in ([[NONE]], [[NONE, ONE], [HALF, NONE]]):
            self.assertEqual(changed_blocks(picture, copy.deepcopy(picture)), [])
            self.assertEqual(changed_blocks(picture, picture), [])

    def test_blocks_of_the_unlike_cells(self):
        one = [[NONE, NONE, NONE, ONE], [NONE, NONE, NONE, ONE], [NONE, NONE, HALF, ONE]]
        other = [[ONE, HALF, NONE, ONE], [ONE, ONE, NONE, ONE], [NONE, NONE, NONE, NONE]]
        self.assertEqual(changed_blocks(one, other), [(0, 0, 2, 2), (2, 2, 2, 1)])
        self.assertEqual(changed_blocks(other, one), [(0, 0, 2, 2), (2, 2, 2, 1)])

    def test_all_cells(self):
        one = [[NONE] * 24 for y in range(24)]
        other = [[(1, 1000)] * 24 for y in range(24)]
        self.assertEqual(changed_blocks(one, other), [(0, 0, 24, 24)])

    def test_some_pictures(self):
        chance = Random(5)
        for count in range(200):
            wide, high = chance.randint(1, 7), chance.randint(1, 6)
            one = [[chance.choice((NONE, HALF, ONE)) for x in range(wide)] for y in range(high)]
            other = [[chance.choice((NONE, HALF, ONE)) for x in range(wide)] for y in range(high)]
            kept = copy.deepcopy((one, other))
            unlike = [(x, y) for y in range(high) for x in range(wide) if one[y][x] != other[y][x]]
            told = changed_blocks(one, other)
            self.assertEqual(told, blocks_of(unlike))
            self.assertEqual(sorted(cell for box in told for cell in cells_of(box)), sorted(unlike))
            self.assertEqual((one, other), kept)

    def test_told_list_is_the_askers_own(self):
        told = changed_blocks([[NONE]], [[ONE]])
        self.assertIs(type(told), list)
        told.append("x")
        told[0] = "y"
        self.assertEqual(changed_blocks([[NONE]], [[ONE]]), [(0, 0, 1, 1)])


if __name__ == "__main__":
    unittest.main()
