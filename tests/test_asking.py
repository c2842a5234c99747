import copy
import unittest
from random import Random

from helping import HALF, NONE, ONE, part, plate, some_floor, some_scene
from scenemend.asking import shade_at, spot_at
from scenemend.drawing import own_sheet, picture_of
from scenemend.errors import NoName

CELLS = [(x, y) for y in range(-9, 13) for x in range(-9, 15)]


def some_scenes(first, many):
    for seed in range(first, first + many):
        chance = Random(seed)
        yield some_scene(chance), some_floor(chance)


class SpotAtTest(unittest.TestCase):
    def test_leaves(self):
        rows = [plate("a", 2, 3, HALF, HALF, x=5, shown=False), plate("n", 2, 3, HALF, NONE)]
        self.assertEqual(spot_at(rows, "a", 1, 2), ((1, 4), HALF))
        for x, y in ((2, 0), (0, 3), (-1, 0), (0, -1), (5, 0), (1000, -1000)):
            self.assertIsNone(spot_at(rows, "a", x, y))
        self.assertIsNone(spot_at(rows, "n", 0, 0))

    def test_each_kind_of_leaf_by_each_cell(self):
        rows = [
            plate("a", 4, 3), part("b", "band", -4, 3, HALF, ONE), part("c", "word", "0f-_", ONE, HALF),
            part("d", "stencil", ("#.#", ".#.", "..#"), HALF, HALF), part("e", "band", 0, 0, HALF, ONE),
        ]
        self.assert_alike(rows)

    def test_holders_without_parts(self):
        rows = [
            part("a", "group"), part("b", "glass", HALF), part("c", "window", 5, 5, 0, 0), part("d", "turn", 1, True),
            part("e", "tiles", 3, 3, 1, 1), part("f", "mask"),
        ]
        for row in rows:
            self.assertIsNone(spot_at(rows, row[0], 0, 0))

    def test_mask_with_a_stencil_alone_and_with_one_that_is_not_shown(self):
        rows = [part("h", "mask"), plate("s", 2, 2, holder="h")]
        self.assertIsNone(spot_at(rows, "h", 0, 0))
        rows.append(plate("a", 1, 2, HALF, holder="h"))
        self.assertEqual(spot_at(rows, "h", 0, 1), (HALF, ONE))
        self.assertIsNone(spot_at(rows, "h", 1, 1))
        rows[1] = plate("s", 2, 2, holder="h", shown=False)
        self.assertIsNone(spot_at(rows, "h", 0, 1))

    def test_no_name(self):
        for rows in ([], [plate("a")]):
            for name in ("", "z"):
                with self.assertRaises(NoName):
                    spot_at(rows, name, 0, 0)

    def assert_alike(self, rows):
        for row in rows:
            held = {(x, y): (ink, cover) for x, y, ink, cover in own_sheet(rows, row[0])}
            for x, y in CELLS:
                self.assertEqual(spot_at(rows, row[0], x, y), held.get((x, y)), (rows, row[0], x, y))

    def test_turns_and_tiles_at_each_cell(self):
        leaf = part("a", "stencil", ("##.", "#.."), HALF, HALF, holder="h", x=1)
        for quarters in range(4):
            for flipped in (False, True):
                self.assert_alike([part("h", "turn", quarters, flipped), leaf])
        for steps in ((0, 0), (1, -1), (-2, 1), (0, 3), (-20, 20)):
            self.assert_alike([part("h", "tiles", 3, 2, *steps), leaf])

    def test_are_those_of_the_sheet_drawn_whole(self):
        for rows, floor in some_scenes(1000, 40):
            kept = copy.deepcopy(rows)
            self.assert_alike(rows)
            self.assertEqual(rows, kept)


class ShadeAtTest(unittest.TestCase):
    def test_ground_and_spots(self):
        floor = (4, 3, (1, 4))
        rows = [plate("a", 2, 1, ONE, HALF, x=1, y=1), plate("b", 1, 1, NONE, ONE, x=2, y=1)]
        self.assertEqual(shade_at([], floor, 3, 2), (1, 4))
        self.assertEqual(shade_at(rows, floor, 0, 0), (1, 4))
        self.assertEqual(shade_at(rows, floor, 1, 1), (5, 8))
        self.assertEqual(shade_at(rows, floor, 2, 1), NONE)

    def test_are_those_of_the_picture_drawn_whole(self):
        for rows, floor in some_scenes(2000, 120):
            kept = copy.deepcopy(rows)
            picture = picture_of(rows, floor)
            for y in range(floor[1]):
                for x in range(floor[0]):
                    self.assertEqual(shade_at(rows, floor, x, y), picture[y][x])
            self.assertEqual(rows, kept)


if __name__ == "__main__":
    unittest.main()
