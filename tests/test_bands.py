import unittest
from fractions import Fraction
from math import floor

from helping import SHARES, as_number, as_told, check_sheet
from scenemend.bands import band_cells, band_sheet

ONE = (1, 1)
HALF = (1, 2)
NONE = (0, 1)


def nearest(number):
    """The nearest whole number, the upper one where two are as near."""
    return floor(number + Fraction(1, 2))


def cells_due(dx, dy):
    n = max(abs(dx), abs(dy))
    if n == 0:
        return [(0, 0)]
    return [(nearest(Fraction(k * dx, n)), nearest(Fraction(k * dy, n))) for k in range(n + 1)]


class BandCellsTest(unittest.TestCase):
    def test_to_its_own_cell(self):
        self.assertEqual(band_cells(0, 0), [(0, 0)])

    def test_straight_and_aslant(self):
        self.assertEqual(band_cells(3, 0), [(0, 0), (1, 0), (2, 0), (3, 0)])
        self.assertEqual(band_cells(-3, 0), [(0, 0), (-1, 0), (-2, 0), (-3, 0)])
        self.assertEqual(band_cells(0, 2), [(0, 0), (0, 1), (0, 2)])
        self.assertEqual(band_cells(0, -2), [(0, 0), (0, -1), (0, -2)])
        self.assertEqual(band_cells(2, -2), [(0, 0), (1, -1), (2, -2)])
        self.assertEqual(band_cells(-2, 2), [(0, 0), (-1, 1), (-2, 2)])

    def test_just_half_a_cell_in_all_eight_directions(self):
        self.assertEqual(band_cells(2, 1), [(0, 0), (1, 1), (2, 1)])
        self.assertEqual(band_cells(2, -1), [(0, 0), (1, 0), (2, -1)])
        self.assertEqual(band_cells(-2, 1), [(0, 0), (-1, 1), (-2, 1)])
        self.assertEqual(band_cells(-2, -1), [(0, 0), (-1, 0), (-2, -1)])
        self.assertEqual(band_cells(1, 2), [(0, 0), (1, 1), (1, 2)])
        self.assertEqual(band_cells(-1, 2), [(0, 0), (0, 1), (-1, 2)])
        self.assertEqual(band_cells(1, -2), [(0, 0), (1, -1), (1, -2)])
        self.assertEqual(band_cells(-1, -2), [(0, 0), (0, -1), (-1, -2)])

    def test_all_bands(self):
        for dx in range(-14, 15):
            for dy in range(-14, 15):
                told = band_cells(dx, dy)
                self.assertEqual(told, cells_due(dx, dy))
                self.assertEqual(len(set(told)), max(abs(dx), abs(dy)) + 1)
                self.assertEqual((told[0], told[-1]), ((0, 0), (dx, dy)))
                self.assertEqual({type(cell) for cell in told}, {tuple})


class BandSheetTest(unittest.TestCase):
    def test_written_out(self):
        self.assertEqual(
            band_sheet(-1, -2, HALF, HALF),
            [(-1, -2, (1, 4), HALF), (0, -1, (1, 4), HALF), (0, 0, (1, 4), HALF)],
        )
        self.assertEqual(band_sheet(0, 0, NONE, ONE), [(0, 0, NONE, ONE)])

    def test_row_by_row_in_all_directions(self):
        for dx in range(-12, 13, 3):
            for dy in range(-12, 13):
                told = band_sheet(dx, dy, (2, 3), (1, 7))
                check_sheet(self, told)
                self.assertEqual(sorted((x, y) for x, y, ink, cover in told), sorted(cells_due(dx, dy)))
                self.assertEqual({(ink, cover) for x, y, ink, cover in told}, {((2, 21), (1, 7))})

    def test_shares(self):
        self.assertEqual(band_sheet(5, 7, ONE, NONE), [])
        for share in SHARES[1:]:
            ink = as_told(as_number(share) / 3)
            self.assertEqual(band_sheet(1, 0, (1, 3), share), [(0, 0, ink, share), (1, 0, ink, share)])


class ListsTest(unittest.TestCase):
    def test_told_lists_are_the_askers_own(self):
        for make in (lambda: band_cells(0, 0), lambda: band_cells(2, 1), lambda: band_sheet(2, 1, ONE, HALF)):
            due = list(make())
            told = make()
            self.assertIs(type(told), list)
            told.append((9, 9))
            told[0] = (8, 8)
            self.assertEqual(make(), due)


if __name__ == "__main__":
    unittest.main()
