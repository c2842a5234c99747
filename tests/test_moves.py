import unittest

from scenemend.held import held_of, lay_on, sheet_of
from scenemend.moves import cell_turned, cell_turned_back, laying_shifts

ONE = (1, 1)
HALF = (1, 2)


class TurnsTest(unittest.TestCase):
    def test_back_is_where_it_came_from(self):
        for cell in ((0, 0), (3, 5), (-2, 7), (4, -1), (-6, -8)):
            for quarters in list(range(-6, 7)) + [10 ** 299 + 3, -(10 ** 299)]:
                for flipped in (False, True):
                    gone = cell_turned(cell, quarters, flipped)
                    self.assertEqual(cell_turned_back(gone, quarters, flipped), cell)
                    back = cell_turned_back(cell, quarters, flipped)
                    self.assertEqual(cell_turned(back, quarters, flipped), cell)

    def test_flipped_first_then_turned(self):
        self.assertEqual(cell_turned((3, 5), 1, True), (-5, -3))
        self.assertEqual(cell_turned((3, 5), 1, False), (-5, 3))


class LayingsTest(unittest.TestCase):
    def test_row_by_row(self):
        self.assertEqual(laying_shifts(3, 2, 4, -5), [(0, 0), (4, 0), (8, 0), (0, -5), (4, -5), (8, -5)])
        self.assertEqual(laying_shifts(1, 1, 4, -5), [(0, 0)])
        self.assertEqual(laying_shifts(2, 2, 0, 0), [(0, 0)] * 4)


class HeldTest(unittest.TestCase):
    def test_there_and_back(self):
        sheet = [(2, -1, ONE, ONE), (0, 0, HALF, HALF), (1, 0, HALF, ONE)]
        self.assertEqual(sheet_of(held_of(sheet)), sheet)
        self.assertEqual(sheet_of(held_of(sheet[::-1])), sheet)

    def test_lay_on(self):
        held = held_of([(0, 0, ONE, ONE)])
        lay_on(held, [(0, 0, (0, 1), HALF), (1, 0, HALF, HALF)])
        self.assertEqual(held, {(0, 0): (HALF, ONE), (1, 0): (HALF, HALF)})


if __name__ == "__main__":
    unittest.main()
