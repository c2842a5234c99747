import copy
import unittest
from random import Random

from helping import (
    HALF, HOLDERS, NONE, ONE, check_picture, check_sheet, floor_numbers, kid_numbers, own_numbers, part, picture_due,
    plate, sheet_told, some_floor, some_scene,
)
from scenemend.drawing import content_of, own_sheet, picture_of
from scenemend.errors import NoName
from scenemend.scenes import vet

FLOOR = (4, 3, (1, 4))
GROUND = [[(1, 4)] * 4 for y in range(3)]


def some_scenes(many):
    for seed in range(many):
        chance = Random(seed)
        yield some_scene(chance), some_floor(chance)


def in_holder(kind, *data, **told):
    """A holder h with a plate two wide, and a dot of half a cover over its right cell."""
    return [
        part("h", kind, *data, **told),
        plate("a", 2, 1, NONE, ONE, holder="h"),
        plate("b", 1, 1, ONE, HALF, holder="h", x=1),
    ]


class OwnSheetTest(unittest.TestCase):
    def assert_own(self, rows, name, due):
        self.assertIs(vet(rows), True)
        told = own_sheet(rows, name)
        check_sheet(self, told)
        self.assertEqual(told, due)

    def test_leaf(self):
        rows = [plate("a", 2, 1, HALF, HALF, x=5, y=6)]
        self.assert_own(rows, "a", [(0, 0, (1, 4), HALF), (1, 0, (1, 4), HALF)])
        self.assert_own([part("a", "word", "1", ONE, ONE)], "a", [(2, y, ONE, ONE) for y in range(5)])
        self.assert_own([part("a", "band", 1, 0, ONE, ONE)], "a", [(0, 0, ONE, ONE), (1, 0, ONE, ONE)])
        self.assert_own([part("a", "stencil", (".#",), ONE, ONE)], "a", [(1, 0, ONE, ONE)])

    def test_shown_or_not(self):
        for shown in (True, False):
            self.assert_own([plate("a", shown=shown)], "a", [(0, 0, ONE, ONE)])
            rows = in_holder("group", x=7, shown=shown)
            self.assert_own(rows, "h", [(0, 0, NONE, ONE), (1, 0, HALF, ONE)])

    def test_what_is_held_and_not_shown_is_left_out(self):
        rows = in_holder("group")
        rows[2] = plate("b", 1, 1, ONE, HALF, holder="h", x=1, shown=False)
        self.assert_own(rows, "h", [(0, 0, NONE, ONE), (1, 0, NONE, ONE)])
        rows = [part("g", "group"), part("h", "group", holder="g", shown=False), plate("a", holder="h")]
        self.assert_own(rows, "g", [])
        self.assert_own(rows, "h", [(0, 0, ONE, ONE)])

    def test_later_rows_over_earlier_ones(self):
        rows = [part("h", "group"), plate("a", shade=NONE, holder="h"), plate("b", shade=HALF, holder="h")]
        self.assert_own(rows, "h", [(0, 0, HALF, ONE)])
        self.assert_own([rows[0], rows[2], rows[1]], "h", [(0, 0, NONE, ONE)])

    def test_empty_holders(self):
        due = {"group": (), "glass": (HALF,), "window": (5, 5, 0, 0), "turn": (1, True), "tiles": (3, 3, 1, 1), "mask": ()}
        for kind in HOLDERS:
            self.assert_own([part("h", kind, *due[kind])], "h", [])

    def test_glass(self):
        self.assert_own(in_holder("glass", HALF), "h", [(0, 0, NONE, HALF), (1, 0, (1, 4), HALF)])
        self.assert_own(in_holder("glass", ONE), "h", [(0, 0, NONE, ONE), (1, 0, HALF, ONE)])
        self.assert_own(in_holder("glass", NONE), "h", [])

    def test_window(self):
        self.assert_own(in_holder("window", 9, 9, 0, 0), "h", [(0, 0, NONE, ONE), (1, 0, HALF, ONE)])
        self.assert_own(in_holder("window", 1, 1, 1, 0), "h", [(0, 0, HALF, ONE)])
        self.assert_own(in_holder("window", 5, 5, -3, -2), "h", [(3, 2, NONE, ONE), (4, 2, HALF, ONE)])
        self.assert_own(in_holder("window", 4, 5, -3, -2), "h", [(3, 2, NONE, ONE)])

    def test_window_that_cuts_all(self):
        for data in ((3, 5, -3, 0), (16, 16, 2, 0), (1, 1, 0, 1), (1, 1, 0, -1), (16, 16, 60, 60), (16, 16, -60, -60)):
            self.assert_own(in_holder("window", *data), "h", [])

    def test_turns(self):
        due = {
            (0, False): [(0, 0, NONE, ONE), (1, 0, HALF, ONE)],
            (1, False): [(0, 0, NONE, ONE), (0, 1, HALF, ONE)],
            (2, False): [(-1, 0, HALF, ONE), (0, 0, NONE, ONE)],
            (3, False): [(0, -1, HALF, ONE), (0, 0, NONE, ONE)],
            (0, True): [(-1, 0, HALF, ONE), (0, 0, NONE, ONE)],
            (1, True): [(0, -1, HALF, ONE), (0, 0, NONE, ONE)],
            (2, True): [(0, 0, NONE, ONE), (1, 0, HALF, ONE)],
            (3, True): [(0, 0, NONE, ONE), (0, 1, HALF, ONE)],
        }
        for data, sheet in due.items():
            self.assert_own(in_holder("turn", *data), "h", sheet)

    def test_tiles(self):
        self.assert_own(
            in_holder("tiles", 2, 2, 3, 1), "h",
            [(x, y, ink, ONE) for y in (0, 1) for x, ink in ((0, NONE), (1, HALF), (3, NONE), (4, HALF))],
        )

    def test_tiles_with_steps_of_nought_and_below(self):
        # Each laying over those ahead: the half spot shines on the plate that the same laying has.
        self.assert_own(in_holder("tiles", 2, 1, 0, 0), "h", [(0, 0, NONE, ONE), (1, 0, HALF, ONE)])
        self.assert_own(in_holder("tiles", 2, 1, 1, 0), "h", [(0, 0, NONE, ONE), (1, 0, NONE, ONE), (2, 0, HALF, ONE)])
        self.assert_own(in_holder("tiles", 2, 1, -1, 0), "h", [(-1, 0, NONE, ONE), (0, 0, HALF, ONE), (1, 0, HALF, ONE)])
        self.assert_own(
            in_holder("tiles", 1, 2, 0, -1), "h",
            [(0, -1, NONE, ONE), (1, -1, HALF, ONE), (0, 0, NONE, ONE), (1, 0, HALF, ONE)],
        )
        thin = [part("h", "tiles", 3, 1, 0, 0), plate("a", share=HALF, holder="h")]
        self.assert_own(thin, "h", [(0, 0, (7, 8), (7, 8))])

    def test_tiles_are_laid_row_by_row(self):
        # The layings (1, 0) and (0, 1) meet at (1, 0), where the dark end of the one and the bright end of the other lie.
        rows = [part("h", "tiles", 2, 2, 1, 0), plate("a", shade=NONE, holder="h"), plate("b", holder="h", x=1)]
        self.assert_own(rows, "h", [(0, 0, NONE, ONE), (1, 0, NONE, ONE), (2, 0, ONE, ONE)])

    def test_masks(self):
        rows = [part("h", "mask")]
        self.assert_own(rows, "h", [])
        rows.append(part("s", "stencil", ("#.#",), HALF, HALF, holder="h", x=1))
        self.assert_own(rows, "h", [])
        rows.append(plate("a", 3, 2, ONE, (1, 3), holder="h"))
        self.assert_own(rows, "h", [(1, 0, (1, 6), (1, 6))])
        rows.append(plate("b", 2, 2, NONE, ONE, holder="h", x=3))
        self.assert_own(rows, "h", [(1, 0, (1, 6), (1, 6)), (3, 0, NONE, HALF)])
        rows[1] = part("s", "stencil", ("#.#",), HALF, HALF, holder="h", x=1, shown=False)
        self.assert_own(rows, "h", [])

    def test_a_holder_as_a_stencil(self):
        rows = [
            part("h", "mask"), part("g", "glass", HALF, holder="h", x=1), plate("a", 2, 2, holder="h"),
            plate("s", 1, 1, holder="g", y=1),
        ]
        self.assert_own(rows, "h", [(1, 1, HALF, HALF)])

    def test_names_of_no_part(self):
        for rows in ([], in_holder("group")):
            for name in ("", "z", "hh"):
                with self.assertRaises(NoName):
                    own_sheet(rows, name)

    def test_as_numbers_tell(self):
        for rows, floor in some_scenes(150):
            for row in rows:
                self.assert_own(rows, row[0], sheet_told(own_numbers(rows, row)))


class ContentTest(unittest.TestCase):
    def test_of_the_floor(self):
        self.assertEqual(content_of([], ""), [])
        self.assertEqual(content_of([plate("a", x=30, y=-7), plate("b", shown=False)], ""), [(30, -7, ONE, ONE)])

    def test_of_each_holder_it_is_what_is_laid_first(self):
        due = [(0, 0, NONE, ONE), (1, 0, HALF, ONE)]
        for rows in (
            in_holder("group", x=9), in_holder("glass", NONE), in_holder("window", 1, 1, 1, 0), in_holder("turn", 1, True),
            in_holder("tiles", 3, 3, 1, 1), in_holder("group", shown=False),
        ):
            self.assertEqual(content_of(rows, "h"), due)

    def test_of_a_mask_it_is_without_the_stencil_and_ahead_of_masking(self):
        for shown in (True, False):
            rows = [part("h", "mask"), plate("s", holder="h", x=50, shown=shown), plate("a", 2, 1, holder="h", x=1)]
            self.assertEqual(content_of(rows, "h"), [(1, 0, ONE, ONE), (2, 0, ONE, ONE)])
        self.assertEqual(content_of([part("h", "mask")], "h"), [])
        self.assertEqual(content_of([part("h", "mask"), plate("s", holder="h")], "h"), [])

    def test_as_numbers_tell(self):
        for rows, floor in some_scenes(60):
            self.assertEqual(content_of(rows, ""), sheet_told(floor_numbers(rows)))
            for row in rows:
                if row[5] in HOLDERS:
                    kids = [kid for kid in rows if kid[1] == row[0]]
                    due = kid_numbers(rows, kids[1:] if row[5] == "mask" else kids)
                    told = content_of(rows, row[0])
                    check_sheet(self, told)
                    self.assertEqual(told, sheet_told(due))


class PictureTest(unittest.TestCase):
    def test_without_rows(self):
        self.assertEqual(picture_of([], FLOOR), GROUND)
        self.assertEqual(picture_of([], (1, 1, ONE)), [[ONE]])
        self.assertEqual(picture_of([], (24, 24, NONE)), [[NONE] * 24 for y in range(24)])

    def test_shades_over_the_ground(self):
        rows = [plate("a", 2, 1, ONE, HALF, x=1, y=1), plate("b", 1, 1, NONE, ONE, x=2, y=1)]
        picture = copy.deepcopy(GROUND)
        picture[1][1] = (5, 8)
        picture[1][2] = NONE
        self.assertEqual(picture_of(rows, FLOOR), picture)

    def test_what_is_not_shown_colours_nothing(self):
        self.assertEqual(picture_of([plate("a", 9, 9, shown=False)], FLOOR), GROUND)
        rows = [part("h", "group", shown=False), part("g", "group", holder="h"), plate("a", 9, 9, holder="g")]
        self.assertEqual(picture_of(rows, FLOOR), GROUND)

    def test_beside_the_floor(self):
        for x, y in ((-2, 0), (4, 0), (0, -2), (0, 3), (60, 60), (-60, -60)):
            self.assertEqual(picture_of([plate("a", 2, 2, x=x, y=y)], FLOOR), GROUND)

    def test_partly_on_the_floor(self):
        self.assertEqual(picture_of([plate("a", 2, 2, x=-1, y=-1)], FLOOR)[0], [ONE] + GROUND[0][1:])
        self.assertEqual(picture_of([plate("a", 2, 2, x=3, y=2)], FLOOR)[2], GROUND[2][:3] + [ONE])

    def test_as_numbers_tell(self):
        for rows, floor in some_scenes(150):
            told = picture_of(rows, floor)
            check_picture(self, told, floor)
            self.assertEqual(told, picture_due(rows, floor))

    def test_a_scene_of_twenty_four_rows(self):
        rows = [part("t", "tiles", 3, 3, 1, 1)]
        for count in range(23):
            rows.append(plate("p" + str(count), 12, 12, (count + 1, 997), (500 + count, 991), holder="t"))
        self.assertIs(vet(rows), True)
        self.assertEqual(picture_of(rows, (3, 2, (1, 7))), picture_due(rows, (3, 2, (1, 7))))


class ListsTest(unittest.TestCase):
    def test_nothing_handed_in_is_changed_and_all_told_is_new(self):
        for rows in (in_holder("group"), in_holder("mask"), in_holder("turn", 0, False), []):
            kept = copy.deepcopy(rows)
            names = [row[0] for row in rows]
            for ask in [lambda name=name: own_sheet(rows, name) for name in names] + [lambda: content_of(rows, "")]:
                due = copy.deepcopy(ask())
                told = ask()
                told.append("x")
                told[0] = "y"
                self.assertEqual(ask(), due)
            due = copy.deepcopy(picture_of(rows, FLOOR))
            told = picture_of(rows, FLOOR)
            told[0][0] = "x"
            self.assertNotIn("x", told[1] + told[2])
            told.append([])
            self.assertEqual(picture_of(rows, FLOOR), due)
            self.assertEqual(rows, kept)

    def test_rows_changed_behind_change_no_answer(self):
        rows = in_holder("group")
        told = (own_sheet(rows, "h"), picture_of(rows, FLOOR))
        due = copy.deepcopy(told)
        rows.clear()
        self.assertEqual(told, due)


if __name__ == "__main__":
    unittest.main()
