import copy
import unittest
from random import Random

from helping import (
    HALF, HOLDERS, NONE, ONE, floor_layers, own_numbers, part, placed, plate, row_named, some_floor, some_scene,
    under_due,
)
from scenemend.drawing import picture_of
from scenemend.looking import meeting, parts_under
from scenemend.scenes import vet


def some_scenes(first, many):
    for seed in range(first, first + many):
        chance = Random(seed)
        yield some_scene(chance), some_floor(chance)


class PartsUnderTest(unittest.TestCase):
    def assert_under(self, rows, x, y, due):
        self.assertIs(vet(rows), True)
        kept = copy.deepcopy(rows)
        told = parts_under(rows, x, y)
        self.assertEqual(told, due)
        self.assertIs(type(told), list)
        told.append("x")
        self.assertEqual(parts_under(rows, x, y), due)
        self.assertEqual(rows, kept)

    def test_without_rows(self):
        self.assert_under([], 0, 0, [])

    def test_uppermost_first_also_beneath_full_cover(self):
        rows = [plate("a", 2, 2), plate("b", 1, 2, share=HALF), plate("c", 2, 1)]
        self.assert_under(rows, 0, 0, ["c", "b", "a"])
        self.assert_under(rows, 1, 0, ["c", "a"])
        self.assert_under(rows, 0, 1, ["b", "a"])
        self.assert_under(rows, 1, 1, ["a"])
        self.assert_under(rows, 2, 2, [])

    def test_any_cell_also_beside_a_floor(self):
        rows = [plate("a", x=-40, y=50)]
        self.assert_under(rows, -40, 50, ["a"])
        self.assert_under(rows, -1000, 1000, [])

    def test_share_nought_colours_nothing_and_shade_nought_does(self):
        self.assert_under([plate("a", shade=ONE, share=NONE)], 0, 0, [])
        self.assert_under([plate("a", shade=NONE, share=(1, 1000))], 0, 0, ["a"])

    def test_not_shown(self):
        self.assert_under([plate("a", shown=False), plate("b")], 0, 0, ["b"])
        rows = [part("g", "group", shown=False), part("h", "group", holder="g"), plate("a", holder="h")]
        self.assert_under(rows, 0, 0, [])

    def test_parts_in_holders_by_their_holders_order(self):
        rows = [
            part("g", "group"), part("h", "group"), plate("a", holder="h"), plate("b", holder="g"), plate("c", holder="h"),
        ]
        self.assert_under(rows, 0, 0, ["c", "a", "b"])

    def test_glasses(self):
        for share, due in ((NONE, []), ((1, 1000), ["a"]), (HALF, ["a"]), (ONE, ["a"])):
            self.assert_under([part("g", "glass", share), plate("a", holder="g")], 0, 0, due)
        rows = [part("g", "glass", NONE), part("h", "glass", ONE, holder="g"), plate("a", holder="h"), plate("b")]
        self.assert_under(rows, 0, 0, ["b"])

    def test_windows(self):
        rows = [part("w", "window", 2, 1, 3, 0, x=1), plate("a", 9, 9, holder="w"), plate("b", holder="w", x=4)]
        self.assert_under(rows, 0, 0, [])
        self.assert_under(rows, 1, 0, ["a"])
        self.assert_under(rows, 2, 0, ["b", "a"])
        self.assert_under(rows, 3, 0, [])
        self.assert_under(rows, 1, 1, [])

    def test_turns(self):
        for flipped, cell in ((False, (-3, 1)), (True, (-3, -1))):
            rows = [part("t", "turn", 1, flipped), plate("a", holder="t", x=1, y=3)]
            self.assert_under(rows, cell[0], cell[1], ["a"])
            self.assert_under(rows, 1, 3, [])

    def test_masks(self):
        rows = [part("m", "mask"), plate("s", 1, 2, holder="m"), plate("a", 2, 2, holder="m"), plate("b", holder="m")]
        self.assert_under(rows, 0, 0, ["b", "a"])
        self.assert_under(rows, 0, 1, ["a"])
        self.assert_under(rows, 1, 0, [])
        self.assert_under(rows[:1], 0, 0, [])
        self.assert_under(rows[:2], 0, 0, [])
        for stencil in (plate("s", 1, 2, holder="m", shown=False), plate("s", 1, 2, share=NONE, holder="m")):
            self.assert_under([rows[0], stencil] + rows[2:], 0, 0, [])

    def test_parts_in_a_stencil_colour_nothing(self):
        rows = [
            part("m", "mask"), part("s", "group", holder="m"), plate("a", holder="m"), plate("i", holder="s"),
            part("n", "mask", holder="s"), plate("j", holder="n", x=1), plate("k", holder="n", x=1),
            plate("b", holder="m", x=1),
        ]
        self.assert_under(rows, 0, 0, ["a"])
        self.assert_under(rows, 1, 0, ["b"])

    def test_a_stencil_behind_glass_of_nought_lets_nothing_through(self):
        rows = [part("m", "mask"), part("s", "glass", NONE, holder="m"), plate("a", holder="m"), plate("i", holder="s")]
        self.assert_under(rows, 0, 0, [])

    def test_tiles_by_the_uppermost_laying(self):
        # At (1, 0) the first laying has b and the second one a; the later laying is the upper one.
        rows = [part("t", "tiles", 2, 1, 1, 0), plate("a", holder="t"), plate("b", holder="t", x=1)]
        self.assert_under(rows, 0, 0, ["a"])
        self.assert_under(rows, 1, 0, ["a", "b"])
        self.assert_under(rows, 2, 0, ["b"])
        rows[0] = part("t", "tiles", 2, 1, -1, 0)
        self.assert_under(rows, 0, 0, ["b", "a"])

    def test_tiles_each_part_once(self):
        rows = [part("t", "tiles", 3, 3, 0, 0), plate("a", holder="t"), plate("b", holder="t"), plate("c")]
        self.assert_under(rows, 0, 0, ["c", "b", "a"])
        # At (2, 0) lie b of the first laying, a and b of the second and a of the third one.
        rows = [part("t", "tiles", 3, 1, 1, 0), plate("a", 2, 1, holder="t"), plate("b", 2, 1, holder="t", x=1)]
        self.assert_under(rows, 2, 0, ["a", "b"])

    def test_tiles_in_other_holders(self):
        rows = [
            part("u", "turn", 1, False), part("t", "tiles", 2, 1, 3, 0, holder="u"),
            part("w", "window", 2, 1, 0, 0, holder="t"), plate("a", 9, 9, holder="w"),
        ]
        for y, due in ((0, ["a"]), (1, ["a"]), (2, []), (3, ["a"]), (4, ["a"]), (5, [])):
            self.assert_under(rows, 0, y, due)

    def test_some_scenes_by_their_layers(self):
        for rows, floor in some_scenes(3000, 80):
            layers = floor_layers(rows)
            for y in range(-2, 10):
                for x in range(-2, 12):
                    self.assertEqual(parts_under(rows, x, y), under_due(layers, x, y))

    def test_a_cell_with_no_part_under_it_has_the_ground(self):
        for rows, floor in some_scenes(4000, 60):
            picture = picture_of(rows, floor)
            for y in range(floor[1]):
                for x in range(floor[0]):
                    if parts_under(rows, x, y) == []:
                        self.assertEqual(picture[y][x], floor[2])


def meeting_due(rows, one, other):
    ones = placed(row_named(rows, one), own_numbers(rows, row_named(rows, one)))
    others = placed(row_named(rows, other), own_numbers(rows, row_named(rows, other)))
    both = sorted((y, x) for x, y in ones if (x, y) in others)
    return (both[0][1], both[0][0]) if both else None


def swapped(rows, one, other):
    """The rows with the two parts, each with all that is in it, in the other order."""
    names = {one: other, other: one}
    held = {row[0]: [kid for kid in rows if kid[1] == row[0]] for row in rows}
    told = []

    def lay(kids):
        for kid in kids:
            kid = row_named(rows, names.get(kid[0], kid[0]))
            told.append(kid)
            lay(held[kid[0]])

    lay([row for row in rows if row[1] == ""])
    return told


class MeetingTest(unittest.TestCase):
    def test_first_cell_row_by_row(self):
        rows = [plate("a", 3, 3), plate("b", 3, 3, x=2, y=1), plate("c", x=9), part("d", "stencil", ("..#", "#.."), ONE, ONE)]
        self.assertEqual(meeting(rows, "a", "b"), (2, 1))
        self.assertEqual(meeting(rows, "b", "a"), (2, 1))
        self.assertIsNone(meeting(rows, "a", "c"))
        self.assertEqual(meeting(rows, "a", "d"), (2, 0))
        self.assertIsNone(meeting(rows, "b", "d"))

    def test_with_itself(self):
        rows = [part("d", "stencil", ("..#", "#.."), ONE, ONE, x=-5, y=7), plate("n", share=NONE), part("g", "group")]
        self.assertEqual(meeting(rows, "d", "d"), (-3, 7))
        self.assertIsNone(meeting(rows, "n", "n"))
        self.assertIsNone(meeting(rows, "g", "g"))

    def test_in_the_holders_frame(self):
        rows = [
            part("h", "turn", 1, True, x=20, y=20), plate("a", 2, 2, holder="h", x=3), plate("b", 2, 2, holder="h", x=4, y=1),
        ]
        self.assertEqual(meeting(rows, "a", "b"), (4, 1))

    def test_shown_or_not(self):
        rows = [plate("a", shown=False), plate("b", shown=False)]
        self.assertEqual(meeting(rows, "a", "b"), (0, 0))

    def test_holders_by_their_own_sheets(self):
        rows = [
            part("g", "glass", HALF, x=1), part("m", "mask"), plate("a", 2, 1, holder="g"), plate("s", holder="m", x=2),
            plate("b", 9, 9, holder="m"), part("n", "glass", NONE), plate("c", 9, 9, holder="n"),
        ]
        self.assertEqual(meeting(rows, "g", "m"), (2, 0))
        self.assertIsNone(meeting(rows, "n", "g"))
        self.assertEqual(meeting(rows, "s", "b"), (2, 0))

    def test_some_scenes(self):
        for rows, floor in some_scenes(5000, 80):
            kept = copy.deepcopy(rows)
            for one in rows:
                for other in rows:
                    if one[1] == other[1]:
                        self.assertEqual(meeting(rows, one[0], other[0]), meeting_due(rows, one[0], other[0]))
            self.assertEqual(rows, kept)

    def test_neighbours_that_do_not_meet_may_change_their_order(self):
        compared = 0
        for rows, floor in some_scenes(6000, 120):
            for holder in [""] + [row[0] for row in rows if row[5] in HOLDERS]:
                kids = [row[0] for row in rows if row[1] == holder]
                if holder != "" and row_named(rows, holder)[5] == "mask":
                    kids = kids[1:]
                for one, other in zip(kids, kids[1:]):
                    if meeting(rows, one, other) is None:
                        told = swapped(rows, one, other)
                        self.assertIs(vet(told), True)
                        self.assertEqual(picture_of(told, floor), picture_of(rows, floor))
                        compared += 1
        self.assertGreater(compared, 100)


if __name__ == "__main__":
    unittest.main()
