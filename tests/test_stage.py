import copy
import unittest
from random import Random

from helping import HALF, NONE, ONE, picture_due, part, places_due, plate, some_deed, some_floor, some_scene
from scenemend.boxes import boxes_parted
from scenemend.cells import cells_of
from scenemend.changed import changed_blocks
from scenemend.deeds import deed_done, touched_by
from scenemend.drawing import own_sheet, picture_of
from scenemend.errors import Nested, NoHolder, NoName, NoPart, SceneError, TooDeep, TooMany, Twice, WrongKind
from scenemend.scenes import holders_of
from scenemend.stage import Stage

FLOOR = (8, 6, (1, 4))
# The floor holds g and m; g holds h; h holds a, t and w; t holds b; m holds s (its stencil), c and k; k holds d.
ROWS = [
    part("g", "group", x=1),
    part("h", "glass", HALF, holder="g"),
    plate("a", 2, 2, holder="h"),
    part("t", "turn", 1, False, holder="h", x=5),
    plate("b", 2, 1, NONE, holder="t"),
    part("w", "window", 2, 2, 0, 0, holder="h", y=3),
    part("m", "mask", x=3, y=2),
    plate("s", 3, 3, holder="m"),
    plate("c", 2, 4, holder="m"),
    part("k", "group", holder="m", x=1),
    plate("d", 3, 1, HALF, holder="k", y=1),
]


class StageCase(unittest.TestCase):
    def assert_stands(self, stage, rows, floor=FLOOR):
        """All that a stage keeps is as drawn anew."""
        self.assertEqual(stage.rows(), rows)
        self.assertEqual(stage.floor(), floor)
        self.assertEqual(stage.picture(), picture_of(rows, floor))
        for row in rows:
            self.assertEqual(stage.sheet(row[0]), own_sheet(rows, row[0]))
        with self.assertRaises(NoName):
            stage.sheet("nobody")

    def assert_told(self, told, rows, behind, deed, floor=FLOOR):
        self.assertIs(type(told), tuple)
        self.assertEqual([type(part) for part in told], [list, list, list])
        touched = touched_by(rows, deed)
        places = places_due(rows, floor, touched) + places_due(behind, floor, touched)
        self.assertEqual(told[0], boxes_parted(places))
        ahead, new = picture_of(rows, floor), picture_of(behind, floor)
        self.assertEqual(told[1], changed_blocks(ahead, new))
        unlike = {(x, y) for y in range(floor[1]) for x in range(floor[0]) if ahead[y][x] != new[y][x]}
        self.assertLessEqual(unlike, {cell for box in told[0] for cell in cells_of(box)})
        self.assertEqual(sorted(unlike), sorted(cell for box in told[1] for cell in cells_of(box)))
        self.assertEqual(told[2], made_due(rows, behind, deed))


def made_due(rows, behind, deed):
    if deed[0] == "put":
        return [deed[1][0]] + holders_of(behind, deed[1][0])
    own = [deed[1]] if deed[0] in ("turn", "size", "change") else []
    return own + holders_of(rows, deed[1])


class NewStageTest(StageCase):
    def test_without_rows(self):
        stage = Stage([], FLOOR)
        self.assert_stands(stage, [])
        self.assertEqual(stage.picture(), [[(1, 4)] * 8 for y in range(6)])

    def test_as_drawn_anew(self):
        self.assert_stands(Stage(ROWS, FLOOR), ROWS)
        self.assertEqual(Stage(ROWS, FLOOR).picture(), picture_due(ROWS, FLOOR))

    def test_some_scenes(self):
        for seed in range(11000, 11060):
            chance = Random(seed)
            rows = some_scene(chance)
            floor = some_floor(chance)
            self.assert_stands(Stage(rows, floor), rows, floor)

    def test_refused_as_vetted(self):
        deep = [part("h0", "group")] + [part("h" + str(k), "group", holder="h" + str(k - 1)) for k in range(1, 8)]
        for rows, refusal in (
            ([plate("A")], NoPart), ([plate("a"), plate("a")], Twice), ([plate("a", holder="b")], NoHolder),
            (deep, TooDeep), ([plate("p" + str(count)) for count in range(25)], TooMany),
            ([part("a", "tiles", 1, 1, 0, 0), part("b", "tiles", 1, 1, 0, 0, holder="a")], Nested),
        ):
            with self.assertRaises(refusal):
                Stage(rows, FLOOR)


class ToldTest(StageCase):
    def assert_does(self, deed, places, blocks, made, rows=ROWS):
        stage = Stage(rows, FLOOR)
        told = stage.do(deed)
        self.assertEqual(told, (places, blocks, made))
        behind = deed_done(rows, deed)
        self.assert_told(told, rows, behind, deed)
        self.assert_stands(stage, behind)

    def test_move(self):
        self.assert_does(("move", "a", 1, 0), [(1, 0, 2, 2), (3, 0, 1, 2)], [(1, 0, 1, 2), (3, 0, 1, 2)], ["h", "g"])
        self.assert_does(("move", "a", 0, 0), [(1, 0, 2, 2)], [], ["h", "g"])
        self.assert_does(("move", "a", 60, 60), [(1, 0, 2, 2)], [(1, 0, 2, 2)], ["h", "g"])
        self.assert_does(("move", "s", 9, 9), [(3, 2, 3, 3)], [(3, 2, 2, 1), (3, 3, 3, 1), (3, 4, 2, 1)], ["m"])

    def test_move_on_the_floor_makes_nothing(self):
        self.assert_does(("move", "p", 1, 0), [(0, 0, 1, 1), (1, 0, 1, 1)], [(0, 0, 2, 1)], [], [plate("p")])

    def test_hide_and_show(self):
        self.assert_does(("hide", "a"), [(1, 0, 2, 2)], [(1, 0, 2, 2)], ["h", "g"])
        self.assert_does(("show", "a"), [(1, 0, 2, 2)], [], ["h", "g"])
        self.assert_does(("hide", "g"), [(1, 0, 6, 2)], [(1, 0, 2, 2), (6, 0, 1, 2)], [])
        hidden = deed_done(ROWS, ("hide", "a"))
        self.assert_does(("hide", "a"), [], [], ["h", "g"], hidden)
        self.assert_does(("show", "a"), [(1, 0, 2, 2)], [(1, 0, 2, 2)], ["h", "g"], hidden)

    def test_turn(self):
        self.assert_does(("turn", "t", -1), [(6, 0, 1, 2), (7, 0, 1, 1)], [(7, 0, 1, 1), (6, 1, 1, 1)], ["t", "h", "g"])
        self.assert_does(("turn", "t", 4), [(6, 0, 1, 2)], [], ["t", "h", "g"])

    def test_size(self):
        self.assert_does(("size", "a", 1, 3), [(1, 0, 2, 2), (1, 2, 1, 1)], [(2, 0, 1, 2), (1, 2, 1, 1)], ["a", "h", "g"])
        self.assert_does(("size", "a", 2, 2), [(1, 0, 2, 2)], [], ["a", "h", "g"])
        self.assert_does(("size", "w", 9, 9), [], [], ["w", "h", "g"])

    def test_change(self):
        self.assert_does(("change", "b", (2, 1, NONE, HALF)), [(6, 0, 1, 2)], [(6, 0, 1, 2)], ["b", "t", "h", "g"])
        self.assert_does(("change", "b", (2, 1, NONE, ONE)), [(6, 0, 1, 2)], [], ["b", "t", "h", "g"])
        self.assert_does(("change", "m", ()), [(3, 2, 3, 3)], [], ["m"])
        self.assert_does(("change", "h", (NONE,)), [(1, 0, 6, 2)], [(1, 0, 2, 2), (6, 0, 1, 2)], ["h", "g"])

    def test_put(self):
        self.assert_does(("put", plate("new", x=7, y=5)), [(7, 5, 1, 1)], [(7, 5, 1, 1)], ["new"])
        self.assert_does(("put", plate("new", holder="t", y=1)), [(5, 0, 1, 1)], [(5, 0, 1, 1)], ["new", "t", "h", "g"])
        self.assert_does(("put", plate("new", 1, 1, NONE, holder="m")), [(3, 2, 3, 3)], [(3, 2, 1, 1)], ["new", "m"])
        self.assert_does(("put", plate("new", shown=False)), [], [], ["new"])
        self.assert_does(("put", part("new", "group", holder="m")), [(3, 2, 3, 3)], [], ["new", "m"])

    def test_take(self):
        self.assert_does(("take", "t"), [(6, 0, 1, 2)], [(6, 0, 1, 2)], ["h", "g"])
        self.assert_does(("take", "g"), [(1, 0, 6, 2)], [(1, 0, 2, 2), (6, 0, 1, 2)], [])
        self.assert_does(("take", "d"), [(4, 3, 3, 1)], [(4, 3, 2, 1)], ["k", "m"])
        # Without s, the plate c is the stencil: of d the cell (4, 3) is left, which stays as it was.
        blocks = [(3, 2, 2, 1), (3, 3, 1, 1), (5, 3, 1, 1), (3, 4, 2, 1)]
        self.assert_does(("take", "s"), [(3, 2, 3, 3)], blocks, ["m"])

    def test_raise_and_sink(self):
        self.assert_does(("raise", "c"), [(3, 2, 3, 3)], [(4, 3, 1, 1)], ["m"])
        self.assert_does(("sink", "c"), [(3, 2, 3, 3)], [(5, 3, 1, 1)], ["m"])
        self.assert_does(("raise", "m"), [(3, 2, 3, 3)], [], [])
        self.assert_does(("sink", "t"), [(6, 0, 1, 2)], [], ["h", "g"])
        rows = [plate("p", 2, 1), plate("q", 2, 1, NONE, x=1)]
        self.assert_does(("raise", "p"), [(0, 0, 2, 1)], [(1, 0, 1, 1)], [], rows)
        self.assert_does(("sink", "q"), [(1, 0, 2, 1)], [(1, 0, 1, 1)], [], rows)

    def test_layings_are_parted(self):
        rows = [part("t", "tiles", 3, 1, 1, 0), plate("a", 2, 1, holder="t")]
        self.assert_does(("move", "a", 0, 1), [(0, 0, 2, 1), (2, 0, 1, 1), (3, 0, 1, 1), (0, 1, 2, 1), (2, 1, 1, 1), (3, 1, 1, 1)],
                         [(0, 0, 4, 2)], ["t"], rows)


class RefusedTest(StageCase):
    def test_a_refused_deed_changes_nothing(self):
        stage = Stage(ROWS, FLOOR)
        for deed, refusal in (
            (("move", "z", 0, 0), NoName), (("hide", "z"), NoName), (("show", ""), NoName), (("take", "z"), NoName),
            (("raise", "z"), NoName), (("sink", "z"), NoName), (("turn", "z", 1), NoName), (("turn", "a", 1), WrongKind),
            (("size", "m", 99, 1), WrongKind), (("size", "a", 13, 1), NoPart), (("move", "a", 61, 0), NoPart),
            (("change", "a", ()), NoPart), (("put", plate("a")), Twice), (("put", plate("z", holder="a")), NoHolder),
            (("put", plate("A")), NoPart),
        ):
            with self.assertRaises(refusal):
                stage.do(deed)
            self.assert_stands(stage, ROWS)


class RowsOfDeedsTest(StageCase):
    def test_behind_each_of_some_deeds(self):
        for seed in range(12000, 12060):
            chance = Random(seed)
            rows = some_scene(chance)
            floor = some_floor(chance)
            stage = Stage(rows, floor)
            for number in range(20):
                deed = some_deed(chance, rows, number)
                behind = rows
                try:
                    told = stage.do(deed)
                except SceneError as refusal:
                    with self.assertRaises(type(refusal)):
                        deed_done(rows, deed)
                else:
                    behind = deed_done(rows, deed)
                    self.assert_told(told, rows, behind, deed, floor)
                self.assert_stands(stage, behind, floor)
                rows = behind

    def test_a_name_that_is_taken_and_put_again(self):
        stage = Stage(ROWS, FLOOR)
        stage.do(("take", "t"))
        for name in ("t", "b"):
            with self.assertRaises(NoName):
                stage.sheet(name)
        row = part("t", "word", "8", HALF, ONE, holder="g")
        self.assertEqual(stage.do(("put", row))[2], ["t", "g"])
        self.assert_stands(stage, [other for other in ROWS if other[0] not in ("t", "b")] + [row])

    def test_two_stages_beside_one_another(self):
        one = Stage(ROWS, FLOOR)
        other = Stage(ROWS, FLOOR)
        third = Stage(ROWS[6:], (3, 3, ONE))
        one.do(("move", "a", 3, 3))
        self.assert_stands(other, ROWS)
        other.do(("take", "m"))
        third.do(("hide", "s"))
        self.assert_stands(one, deed_done(ROWS, ("move", "a", 3, 3)))
        self.assert_stands(other, deed_done(ROWS, ("take", "m")))
        self.assert_stands(third, deed_done(ROWS[6:], ("hide", "s")), (3, 3, ONE))


class ListsTest(StageCase):
    def test_rows_handed_in_stay_and_may_be_changed_behind(self):
        rows = copy.deepcopy(ROWS)
        stage = Stage(rows, FLOOR)
        stage.do(("move", "a", 1, 1))
        self.assertEqual(rows, ROWS)
        rows.clear()
        self.assert_stands(stage, deed_done(ROWS, ("move", "a", 1, 1)))

    def test_told_lists_are_the_askers_own(self):
        stage = Stage(ROWS, FLOOR)
        for count in range(2):
            stage.rows().clear()
            stage.picture()[0][0] = "x"
            stage.picture().clear()
            for row in ROWS:
                stage.sheet(row[0]).clear()
            self.assert_stands(stage, ROWS)
            told = stage.do(("move", "a", 0, 0))
            for part_of_it in told:
                part_of_it.append("x")
            self.assert_stands(stage, ROWS)
        self.assertEqual(stage.do(("move", "a", 0, 0)), ([(1, 0, 2, 2)], [], ["h", "g"]))

    def test_what_was_told_stays_as_it_was(self):
        stage = Stage(ROWS, FLOOR)
        told = (stage.rows(), stage.picture(), stage.sheet("h"))
        kept = copy.deepcopy(told)
        stage.do(("move", "a", 2, 2))
        stage.do(("take", "g"))
        self.assertEqual(told, kept)


if __name__ == "__main__":
    unittest.main()
