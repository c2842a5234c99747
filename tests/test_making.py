import copy
import unittest

from helping import HALF, NONE, ONE, part, plate
from scenemend.bands import band_sheet
from scenemend.making import content_laid, part_made
from scenemend.plain import plate_sheet, stencil_sheet
from scenemend.words import word_sheet

LOWER = (plate("a", 2, 1, NONE, ONE, x=1), [(0, 0, NONE, ONE), (1, 0, NONE, ONE)])
UPPER = (plate("b", 1, 1, ONE, HALF, x=2), [(0, 0, HALF, HALF)])
HIDDEN = (plate("c", 9, 9, shown=False), [(0, 0, ONE, ONE)])
KIDS = [LOWER, UPPER, HIDDEN]
LAID = [(1, 0, NONE, ONE), (2, 0, HALF, ONE)]


class LeavesTest(unittest.TestCase):
    def test_each_kind(self):
        rows = ("#.", ".#")
        for shade, share in ((HALF, HALF), (ONE, NONE), (NONE, ONE)):
            due = {
                part("a", "plate", 2, 3, shade, share): plate_sheet(2, 3, shade, share),
                part("a", "band", 2, -3, shade, share): band_sheet(2, -3, shade, share),
                part("a", "word", "a0", shade, share): word_sheet("a0", shade, share),
                part("a", "stencil", rows, shade, share): stencil_sheet(rows, shade, share),
            }
            for row, sheet in due.items():
                self.assertEqual(part_made(row, []), sheet)


class HoldersTest(unittest.TestCase):
    def test_content(self):
        self.assertEqual(content_laid(KIDS), LAID)
        self.assertEqual(content_laid([UPPER, LOWER]), [(1, 0, NONE, ONE), (2, 0, NONE, ONE)])
        self.assertEqual(content_laid([]), [])

    def test_each_kind(self):
        due = [
            (part("h", "group"), LAID),
            (part("h", "glass", HALF), [(1, 0, NONE, HALF), (2, 0, (1, 4), HALF)]),
            (part("h", "glass", NONE), []),
            (part("h", "window", 3, 2, 2, -1), [(0, 1, HALF, ONE)]),
            (part("h", "turn", 1, False), [(0, 1, NONE, ONE), (0, 2, HALF, ONE)]),
            (part("h", "turn", 1, True), [(0, -2, HALF, ONE), (0, -1, NONE, ONE)]),
            (part("h", "tiles", 2, 1, 1, 9), [(1, 0, NONE, ONE), (2, 0, NONE, ONE), (3, 0, HALF, ONE)]),
            (part("h", "mask"), [(2, 0, HALF, HALF)]),
        ]
        for row, sheet in due:
            with self.subTest(kind=row[5]):
                self.assertEqual(part_made(row, KIDS), sheet)

    def test_mask(self):
        mask = part("h", "mask")
        self.assertEqual(part_made(mask, []), [])
        self.assertEqual(part_made(mask, [LOWER]), [])
        self.assertEqual(part_made(mask, [HIDDEN, LOWER]), [])
        self.assertEqual(part_made(mask, [UPPER, LOWER]), [(2, 0, NONE, HALF)])

    def test_lists_handed_in_stay_and_told_ones_are_new(self):
        kids = copy.deepcopy(KIDS)
        for row in (part("h", "group"), part("h", "mask"), part("h", "turn", 0, False)):
            due = copy.deepcopy(part_made(row, kids))
            told = part_made(row, kids)
            told.clear()
            self.assertEqual(kids, KIDS)
            self.assertEqual(part_made(row, kids), due)


if __name__ == "__main__":
    unittest.main()
