import copy
import unittest
from random import Random

from helping import SHARES, as_number, check_sheet, numbers_of, over, sheet_told, some_sheet
from scenemend.sheets import (
    laid_over, sheet_cut, sheet_frame, sheet_masked, sheet_shared, sheet_shifted, sheet_turned,
)

ONE = (1, 1)
HALF = (1, 2)
NONE = (0, 1)
# Two by two cells with four unlike spots, one of cover 1 and one without ink among them.
FOUR = [(0, 0, ONE, ONE), (1, 0, (1, 4), HALF), (0, 1, NONE, (1, 3)), (1, 1, (1, 6), (2, 3))]
# One quarter takes (x, y) to (-y, x), so these are written out by hand.
TURNS = {
    (0, False): lambda x, y: (x, y),
    (1, False): lambda x, y: (-y, x),
    (2, False): lambda x, y: (-x, -y),
    (3, False): lambda x, y: (y, -x),
    (0, True): lambda x, y: (-x, y),
    (1, True): lambda x, y: (-y, -x),
    (2, True): lambda x, y: (x, -y),
    (3, True): lambda x, y: (y, x),
}


def some_sheets(many):
    chance = Random(9)
    return [some_sheet(chance) for count in range(many)]


class SheetCase(unittest.TestCase):
    def assert_sheet(self, told, due):
        check_sheet(self, told)
        self.assertEqual(told, due)


class LaidOverTest(SheetCase):
    def test_empty_sheets(self):
        self.assert_sheet(laid_over([], []), [])
        self.assert_sheet(laid_over(FOUR, []), FOUR)
        self.assert_sheet(laid_over([], FOUR), FOUR)

    def test_cells_in_one_in_the_other_and_in_both(self):
        upper = [(0, 0, (1, 4), HALF), (1, 0, (1, 4), HALF)]
        lower = [(1, 0, (1, 3), (1, 3)), (2, 0, NONE, ONE)]
        self.assert_sheet(
            laid_over(upper, lower),
            [(0, 0, (1, 4), HALF), (1, 0, (5, 12), (2, 3)), (2, 0, NONE, ONE)],
        )
        self.assert_sheet(
            laid_over(lower, upper),
            [(0, 0, (1, 4), HALF), (1, 0, (1, 2), (2, 3)), (2, 0, NONE, ONE)],
        )

    def test_cover_one_hides_and_is_not_hidden_by_less(self):
        full = [(0, 0, (1, 3), ONE)]
        thin = [(0, 0, (1, 4), HALF)]
        self.assert_sheet(laid_over(full, thin), full)
        self.assert_sheet(laid_over(thin, full), [(0, 0, (5, 12), ONE)])

    def test_row_by_row_where_cells_lie_between_one_another(self):
        upper = [(2, -1, ONE, ONE), (-5, 0, ONE, ONE), (5, 0, ONE, ONE), (0, 2, ONE, ONE)]
        lower = [(3, -2, NONE, ONE), (1, -1, NONE, ONE), (0, 0, NONE, ONE), (0, 1, NONE, ONE)]
        due = [
            (3, -2, NONE, ONE), (1, -1, NONE, ONE), (2, -1, ONE, ONE), (-5, 0, ONE, ONE),
            (0, 0, NONE, ONE), (5, 0, ONE, ONE), (0, 1, NONE, ONE), (0, 2, ONE, ONE),
        ]
        self.assert_sheet(laid_over(upper, lower), due)
        self.assert_sheet(laid_over(lower, upper), due)

    def test_as_numbers_tell(self):
        sheets = some_sheets(30)
        for upper in sheets:
            for lower in sheets:
                ones = numbers_of(upper)
                others = numbers_of(lower)
                due = {cell: over(ones.get(cell), others.get(cell)) for cell in set(ones) | set(others)}
                self.assert_sheet(laid_over(upper, lower), sheet_told(due))

    def test_three_are_the_same_whichever_two_are_laid_first(self):
        sheets = some_sheets(14)
        for one in sheets:
            for other in sheets:
                for third in sheets:
                    self.assertEqual(
                        laid_over(laid_over(one, other), third),
                        laid_over(one, laid_over(other, third)),
                    )

    def test_without_a_common_cell_the_order_does_not_matter(self):
        for sheet in some_sheets(30):
            left = sheet_cut(sheet, (-50, -50, 50, 100))
            right = sheet_cut(sheet, (0, -50, 50, 100))
            self.assert_sheet(laid_over(left, right), sheet)
            self.assert_sheet(laid_over(right, left), sheet)


class ShiftedTest(SheetCase):
    def test_each_cell_goes(self):
        self.assert_sheet(
            sheet_shifted(FOUR, 3, -5),
            [(3, -5, ONE, ONE), (4, -5, (1, 4), HALF), (3, -4, NONE, (1, 3)), (4, -4, (1, 6), (2, 3))],
        )

    def test_by_nothing_and_back(self):
        for sheet in [[], FOUR] + some_sheets(10):
            self.assert_sheet(sheet_shifted(sheet, 0, 0), sheet)
            self.assert_sheet(sheet_shifted(sheet_shifted(sheet, -7, 60), 7, -60), sheet)


class CutTest(SheetCase):
    def test_within_and_beside(self):
        self.assert_sheet(sheet_cut(FOUR, (0, 0, 2, 2)), FOUR)
        self.assert_sheet(sheet_cut(FOUR, (-9, -9, 40, 40)), FOUR)
        for box in ((2, 0, 5, 5), (0, 2, 5, 5), (-5, 0, 5, 5), (0, -5, 5, 5), (2, 2, 1, 1), (900, -900, 9, 9)):
            self.assert_sheet(sheet_cut(FOUR, box), [])
        self.assert_sheet(sheet_cut([], (0, 0, 9, 9)), [])

    def test_at_the_boxs_edges(self):
        self.assert_sheet(sheet_cut(FOUR, (0, 0, 1, 1)), FOUR[:1])
        self.assert_sheet(sheet_cut(FOUR, (1, 1, 1, 1)), FOUR[3:])
        self.assert_sheet(sheet_cut(FOUR, (0, 1, 2, 1)), FOUR[2:])
        self.assert_sheet(sheet_cut(FOUR, (1, 0, 1, 9)), [FOUR[1], FOUR[3]])

    def test_some_sheets(self):
        for sheet in some_sheets(40):
            due = [spot for spot in sheet if -1 <= spot[0] < 2 and -2 <= spot[1] < 0]
            self.assert_sheet(sheet_cut(sheet, (-1, -2, 3, 2)), due)


class SharedTest(SheetCase):
    def test_share_nought_leaves_no_spots(self):
        for sheet in [[], FOUR] + some_sheets(10):
            self.assert_sheet(sheet_shared(sheet, NONE), [])

    def test_share_one_leaves_all(self):
        for sheet in [[], FOUR] + some_sheets(10):
            self.assert_sheet(sheet_shared(sheet, ONE), sheet)

    def test_half(self):
        self.assert_sheet(
            sheet_shared(FOUR, HALF),
            [(0, 0, HALF, HALF), (1, 0, (1, 8), (1, 4)), (0, 1, NONE, (1, 6)), (1, 1, (1, 12), (1, 3))],
        )

    def test_as_numbers_tell(self):
        for sheet in some_sheets(20):
            for share in SHARES[1:]:
                due = {
                    cell: (ink * as_number(share), cover * as_number(share))
                    for cell, (ink, cover) in numbers_of(sheet).items()
                }
                self.assert_sheet(sheet_shared(sheet, share), sheet_told(due))


class MaskedTest(SheetCase):
    def test_with_and_without_a_spot_at_a_cell(self):
        stencil = [(1, 0, (1, 9), (1, 3)), (0, 1, NONE, ONE), (5, 5, ONE, ONE)]
        self.assert_sheet(sheet_masked(FOUR, stencil), [(1, 0, (1, 12), (1, 6)), (0, 1, NONE, (1, 3))])

    def test_ink_of_the_mask_does_not_matter(self):
        for ink in (NONE, (1, 3), HALF):
            self.assert_sheet(sheet_masked(FOUR[:1], [(0, 0, ink, HALF)]), [(0, 0, HALF, HALF)])

    def test_empty_sheets(self):
        self.assert_sheet(sheet_masked(FOUR, []), [])
        self.assert_sheet(sheet_masked([], FOUR), [])
        self.assert_sheet(sheet_masked([], []), [])

    def test_as_numbers_tell(self):
        sheets = some_sheets(30)
        for sheet in sheets:
            for stencil in sheets:
                covers = numbers_of(stencil)
                due = {
                    cell: (ink * covers[cell][1], cover * covers[cell][1])
                    for cell, (ink, cover) in numbers_of(sheet).items() if cell in covers
                }
                self.assert_sheet(sheet_masked(sheet, stencil), sheet_told(due))


class TurnedTest(SheetCase):
    def test_written_out(self):
        sheet = [(1, 2, ONE, ONE), (5, 3, HALF, HALF)]
        self.assert_sheet(sheet_turned(sheet, 1, False), [(-2, 1, ONE, ONE), (-3, 5, HALF, HALF)])
        self.assert_sheet(sheet_turned(sheet, 0, True), [(-1, 2, ONE, ONE), (-5, 3, HALF, HALF)])
        self.assert_sheet(sheet_turned(sheet, 1, True), [(-3, -5, HALF, HALF), (-2, -1, ONE, ONE)])
        self.assert_sheet(sheet_turned(sheet, 3, True), [(2, 1, ONE, ONE), (3, 5, HALF, HALF)])

    def test_any_quarters(self):
        great = 10 ** 299
        for sheet in [[], FOUR] + some_sheets(8):
            numbers = numbers_of(sheet)
            for (quarters, flipped), goes in TURNS.items():
                due = sheet_told({goes(x, y): spot for (x, y), spot in numbers.items()})
                for more in (0, 4, 8, -4, -8, 4 * great, -4 * great):
                    self.assert_sheet(sheet_turned(sheet, quarters + more, flipped), due)

    def test_each_quarter_by_itself(self):
        for sheet in some_sheets(8):
            for flipped in (False, True):
                turned = sheet_turned(sheet, 0, flipped)
                for quarters in range(9):
                    self.assert_sheet(sheet_turned(sheet, quarters, flipped), turned)
                    turned = sheet_turned(turned, 1, False)
                back = sheet_turned(sheet, -1, flipped)
                self.assert_sheet(sheet_turned(back, 1, False), sheet_turned(sheet, 0, flipped))


class FrameTest(unittest.TestCase):
    def test_of_nothing(self):
        self.assertIsNone(sheet_frame([]))

    def test_of_some(self):
        self.assertEqual(sheet_frame(FOUR), (0, 0, 2, 2))
        self.assertEqual(sheet_frame(FOUR[3:]), (1, 1, 1, 1))
        self.assertEqual(sheet_frame([(4, -6, ONE, ONE), (-1, -2, NONE, ONE)]), (-1, -6, 6, 5))
        self.assertIs(type(sheet_frame(FOUR)), tuple)


def all_told(sheet, stencil):
    return [
        laid_over(sheet, stencil), laid_over(stencil, sheet), laid_over(sheet, []), laid_over([], sheet),
        sheet_shifted(sheet, 0, 0), sheet_shifted(sheet, 1, 2), sheet_cut(sheet, (-9, -9, 99, 99)),
        sheet_cut(sheet, (0, 0, 2, 2)), sheet_shared(sheet, ONE), sheet_shared(sheet, HALF), sheet_shared(sheet, NONE),
        sheet_masked(sheet, sheet), sheet_masked(sheet, stencil), sheet_turned(sheet, 0, False),
        sheet_turned(sheet, 5, True),
    ]


class ListsTest(unittest.TestCase):
    def test_nothing_handed_in_is_changed(self):
        sheet = copy.deepcopy(FOUR)
        stencil = [(1, 0, (1, 9), (1, 3)), (7, 7, NONE, ONE)]
        kept = copy.deepcopy(stencil)
        all_told(sheet, stencil)
        sheet_frame(sheet)
        self.assertEqual(sheet, FOUR)
        self.assertEqual(stencil, kept)

    def test_every_told_list_is_the_askers_own(self):
        sheet = copy.deepcopy(FOUR)
        stencil = [(1, 0, (1, 9), (1, 3)), (7, 7, NONE, ONE)]
        due = copy.deepcopy(all_told(sheet, stencil))
        for told in all_told(sheet, stencil):
            self.assertIsNot(told, sheet)
            self.assertIsNot(told, stencil)
            told.append((9, 9, ONE, ONE))
            told[0] = (8, 8, ONE, ONE)
        self.assertEqual(sheet, FOUR)
        self.assertEqual(all_told(sheet, stencil), due)

    def test_a_list_changed_behind_changes_no_answer(self):
        sheet = copy.deepcopy(FOUR)
        stencil = [(1, 0, (1, 9), (1, 3)), (7, 7, NONE, ONE)]
        told = all_told(sheet, stencil)
        due = copy.deepcopy(told)
        sheet.clear()
        stencil.clear()
        self.assertEqual(told, due)


if __name__ == "__main__":
    unittest.main()
