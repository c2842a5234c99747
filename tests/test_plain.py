import unittest

from helping import SHARES, as_number, as_told, check_sheet
from scenemend.plain import plain_spot, plate_sheet, stencil_sheet

ONE = (1, 1)
HALF = (1, 2)
NONE = (0, 1)


def plain_sheet_due(cells, shade, share):
    ink = as_told(as_number(shade) * as_number(share))
    return [(x, y, ink, share) for x, y in cells]


class PlainSpotTest(unittest.TestCase):
    def test_shade_times_share_and_share(self):
        self.assertEqual(plain_spot((2, 3), (3, 4)), (HALF, (3, 4)))
        for shade in SHARES:
            for share in SHARES[1:]:
                told = plain_spot(shade, share)
                self.assertEqual(told, (as_told(as_number(shade) * as_number(share)), share))
                self.assertIs(type(told), tuple)

    def test_share_nought_is_none(self):
        for shade in SHARES:
            self.assertIsNone(plain_spot(shade, NONE))

    def test_shade_nought_and_share_one(self):
        self.assertEqual(plain_spot(NONE, ONE), (NONE, ONE))
        self.assertEqual(plain_spot(NONE, HALF), (NONE, HALF))
        self.assertEqual(plain_spot((1, 7), ONE), ((1, 7), ONE))


class PlateTest(unittest.TestCase):
    def test_written_out(self):
        self.assertEqual(
            plate_sheet(3, 2, HALF, (1, 3)),
            [
                (0, 0, (1, 6), (1, 3)), (1, 0, (1, 6), (1, 3)), (2, 0, (1, 6), (1, 3)),
                (0, 1, (1, 6), (1, 3)), (1, 1, (1, 6), (1, 3)), (2, 1, (1, 6), (1, 3)),
            ],
        )

    def test_all_sizes(self):
        for w in range(1, 14):
            for h in range(1, 14):
                told = plate_sheet(w, h, (2, 3), (1, 7))
                check_sheet(self, told)
                cells = [(x, y) for y in range(h) for x in range(w)]
                self.assertEqual(told, plain_sheet_due(cells, (2, 3), (1, 7)))

    def test_share_nought_and_one(self):
        self.assertEqual(plate_sheet(12, 12, ONE, NONE), [])
        self.assertEqual(plate_sheet(1, 1, (1, 7), ONE), [(0, 0, (1, 7), ONE)])


class StencilTest(unittest.TestCase):
    def test_written_out(self):
        rows = ("#.", ".#", "##", "..")
        told = stencil_sheet(rows, ONE, HALF)
        check_sheet(self, told)
        self.assertEqual(told, plain_sheet_due([(0, 0), (1, 1), (0, 2), (1, 2)], ONE, HALF))

    def test_a_list_of_rows_does_as_well(self):
        rows = ["..#", "#..", "..."]
        self.assertEqual(stencil_sheet(rows, ONE, HALF), stencil_sheet(tuple(rows), ONE, HALF))
        self.assertEqual(stencil_sheet(rows, ONE, HALF), plain_sheet_due([(2, 0), (0, 1)], ONE, HALF))
        self.assertEqual(rows, ["..#", "#..", "..."])

    def test_without_spots(self):
        self.assertEqual(stencil_sheet((".",), ONE, ONE), [])
        self.assertEqual(stencil_sheet(("....", "...."), ONE, ONE), [])
        self.assertEqual(stencil_sheet(("####", "####"), ONE, NONE), [])

    def test_full_is_a_plate(self):
        for share in SHARES:
            self.assertEqual(stencil_sheet(("#" * 8,) * 5, (1, 3), share), plate_sheet(8, 5, (1, 3), share))


class ListsTest(unittest.TestCase):
    def test_told_lists_are_the_askers_own(self):
        for make in (lambda: plate_sheet(2, 2, ONE, HALF), lambda: stencil_sheet(("##",), ONE, HALF),
                     lambda: plate_sheet(2, 2, ONE, NONE)):
            due = list(make())
            told = make()
            told.append((9, 9, ONE, ONE))
            told[0] = (8, 8, ONE, ONE)
            self.assertEqual(make(), due)


if __name__ == "__main__":
    unittest.main()
