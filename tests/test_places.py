import copy
import unittest
from random import Random

from helping import (
    HALF, NONE, ONE, is_fit, part, places_due, plate, row_named, some_data, some_floor, some_row, some_scene,
)
from scenemend.cells import cells_of
from scenemend.changed import changed_blocks
from scenemend.drawing import picture_of
from scenemend.places import places_of
from scenemend.scenes import vet

FLOOR = (8, 6, NONE)


class PlacesTest(unittest.TestCase):
    def assert_places(self, rows, name, due):
        self.assertIs(vet(rows), True)
        kept = copy.deepcopy(rows)
        told = places_of(rows, FLOOR, name)
        self.assertEqual(told, due)
        self.assertIs(type(told), list)
        told.append("x")
        self.assertEqual(places_of(rows, FLOOR, name), due)
        self.assertEqual(rows, kept)

    def test_frame_of_the_cells_on_the_floor(self):
        rows = [part("a", "stencil", (".#.", "..#"), ONE, HALF, x=2, y=1)]
        self.assert_places(rows, "a", [(3, 1, 2, 2)])
        self.assert_places([plate("a", 5, 5, x=-2, y=3)], "a", [(0, 3, 3, 3)])
        self.assert_places([part("a", "band", 12, 12, ONE, ONE, x=-2, y=-2)], "a", [(0, 0, 6, 6)])

    def test_beside_the_floor(self):
        for x, y in ((8, 0), (0, 6), (-5, 0), (0, -5), (60, 60), (-60, -60)):
            self.assert_places([plate("a", 5, 5, x=x, y=y)], "a", [])

    def test_without_cells(self):
        self.assert_places([plate("a", 5, 5, share=NONE)], "a", [])
        self.assert_places([part("a", "word", "", ONE, ONE)], "a", [])
        self.assert_places([part("a", "group")], "a", [])

    def test_names_of_no_part(self):
        for name in ("", "z", "aa"):
            self.assert_places([plate("a")], name, [])
            self.assert_places([], name, [])

    def test_not_shown(self):
        self.assert_places([plate("a", shown=False)], "a", [])
        rows = [part("g", "group", shown=False), part("h", "group", holder="g"), plate("a", holder="h"), plate("b")]
        for name in ("g", "h", "a"):
            self.assert_places(rows, name, [])
        self.assert_places(rows, "b", [(0, 0, 1, 1)])

    def test_through_holders(self):
        rows = [part("g", "group", x=1, y=1), part("h", "glass", HALF, holder="g", x=2), plate("a", 2, 1, holder="h", y=3)]
        self.assert_places(rows, "a", [(3, 4, 2, 1)])
        self.assert_places(rows, "h", [(3, 4, 2, 1)])
        self.assert_places(rows, "g", [(3, 4, 2, 1)])

    def test_windows_shift_and_cut(self):
        rows = [part("w", "window", 3, 2, 1, 1, x=2, y=2), plate("a", 2, 2, holder="w"), plate("b", holder="w", x=9)]
        self.assert_places(rows, "a", [(2, 2, 1, 1)])
        self.assert_places(rows, "b", [])
        self.assert_places(rows, "w", [(2, 2, 1, 1)])

    def test_turns(self):
        rows = [part("t", "turn", 1, False, x=5, y=1), plate("a", 3, 1, holder="t", x=1, y=2)]
        self.assert_places(rows, "a", [(3, 2, 1, 3)])
        rows[0] = part("t", "turn", 1, True, x=5, y=5)
        self.assert_places(rows, "a", [(3, 2, 1, 3)])

    def test_glasses_and_masks_leave_all(self):
        rows = [part("g", "glass", NONE), plate("a", 2, 2, holder="g")]
        self.assert_places(rows, "a", [(0, 0, 2, 2)])
        self.assert_places(rows, "g", [])
        rows = [part("m", "mask"), plate("s", holder="m", x=3), plate("a", 2, 2, holder="m")]
        self.assert_places(rows, "a", [(0, 0, 2, 2)])
        self.assert_places(rows, "s", [(3, 0, 1, 1)])
        self.assert_places(rows, "m", [])
        self.assert_places([part("m", "mask"), plate("s", holder="m", x=3)], "s", [(3, 0, 1, 1)])

    def test_of_parts_in_a_stencil_too(self):
        rows = [part("m", "mask"), part("s", "group", holder="m", x=1), plate("a", 2, 2, holder="s", y=1)]
        self.assert_places(rows, "s", [(1, 1, 2, 2)])
        self.assert_places(rows, "a", [(1, 1, 2, 2)])

    def test_one_for_each_laying_row_by_row(self):
        rows = [part("t", "tiles", 3, 2, 3, 4), plate("a", 2, 1, holder="t"), plate("b", holder="t", x=1, y=5)]
        self.assert_places(rows, "a", [(0, 0, 2, 1), (3, 0, 2, 1), (6, 0, 2, 1), (0, 4, 2, 1), (3, 4, 2, 1), (6, 4, 2, 1)])
        self.assert_places(rows, "b", [(1, 5, 1, 1), (4, 5, 1, 1), (7, 5, 1, 1)])
        self.assert_places(rows, "t", [(0, 0, 8, 6)])

    def test_layings_with_steps_of_nought_and_below(self):
        rows = [part("t", "tiles", 2, 2, 0, 0), plate("a", holder="t")]
        self.assert_places(rows, "a", [(0, 0, 1, 1)] * 4)
        rows = [part("t", "tiles", 2, 2, -1, -2, x=1, y=3), plate("a", holder="t")]
        self.assert_places(rows, "a", [(1, 3, 1, 1), (0, 3, 1, 1), (1, 1, 1, 1), (0, 1, 1, 1)])

    def test_layings_that_are_cut_or_turned_behind(self):
        rows = [
            part("u", "turn", 2, False, x=7, y=5), part("w", "window", 5, 1, 0, 0, holder="u"),
            part("t", "tiles", 3, 2, 2, 1, holder="w"), part("g", "group", holder="t"), plate("a", 2, 1, holder="g"),
        ]
        self.assert_places(rows, "a", [(6, 5, 2, 1), (4, 5, 2, 1), (3, 5, 1, 1)])

    def test_some_scenes(self):
        for seed in range(7000, 7120):
            chance = Random(seed)
            rows = some_scene(chance)
            floor = some_floor(chance)
            for row in rows:
                self.assertEqual(places_of(rows, floor, row[0]), places_due(rows, floor, row[0]))


def cells_in(boxes):
    return {cell for box in boxes for cell in cells_of(box)}


class ChangesLieInPlacesTest(unittest.TestCase):
    def assert_within(self, ahead, behind, floor, name):
        unlike = cells_in(changed_blocks(picture_of(ahead, floor), picture_of(behind, floor)))
        places = cells_in(places_of(ahead, floor, name) + places_of(behind, floor, name))
        self.assertLessEqual(unlike, places)
        return len(unlike)

    def some_scenes(self, first, many):
        for seed in range(first, first + many):
            chance = Random(seed)
            rows = some_scene(chance)
            if rows:
                yield chance, rows, some_floor(chance)

    def test_where_one_row_is_another(self):
        unlike = 0
        for chance, rows, floor in self.some_scenes(8000, 150):
            for name, holder, x, y, shown, kind, data in rows:
                other = (name, holder, chance.randint(-2, 4), y, chance.random() < 0.8, kind, some_data(chance, kind))
                behind = [other if row[0] == name else row for row in rows]
                unlike += self.assert_within(rows, behind, floor, name)
        self.assertGreater(unlike, 1000)

    def test_where_a_part_is_there_in_one_of_them_alone(self):
        for chance, rows, floor in self.some_scenes(9000, 100):
            row = some_row(chance, rows, "new")
            if is_fit(rows, row):
                held_by_mask = row[1] != "" and row_named(rows, row[1])[5] == "mask"
                self.assert_within(rows, rows + [row], floor, row[1] if held_by_mask else "new")

    def test_where_rows_stand_otherwise_among_those_of_a_holder(self):
        for chance, rows, floor in self.some_scenes(10000, 100):
            for row in rows:
                if not any(kid[1] == row[0] for kid in rows):
                    held_by_mask = row[1] != "" and row_named(rows, row[1])[5] == "mask"
                    behind = [other for other in rows if other[0] != row[0]] + [row]
                    self.assert_within(rows, behind, floor, row[1] if held_by_mask else row[0])

    def test_a_new_stencil_changes_cells_of_the_mask(self):
        rows = [part("m", "mask"), plate("s", 1, 1, holder="m"), plate("a", 3, 3, HALF, holder="m"), plate("b", holder="m", x=2)]
        behind = [rows[0], rows[2], rows[3], rows[1]]
        unlike = cells_in(changed_blocks(picture_of(rows, FLOOR), picture_of(behind, FLOOR)))
        self.assertEqual(unlike, {(0, 0), (2, 0)})
        self.assertNotIn((2, 0), cells_in(places_of(rows, FLOOR, "s")))
        self.assert_within(rows, behind, FLOOR, "m")


if __name__ == "__main__":
    unittest.main()
