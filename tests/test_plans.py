import copy
import unittest
from random import Random

from helping import HALF, NONE, ONE, part, places_due, plate, some_floor, some_scene
from scenemend.cells import cells_of, stretches_of
from scenemend.copies import copies_of
from scenemend.deeds import deed_done
from scenemend.drawing import picture_of
from scenemend.errors import NoName, NoPart
from scenemend.plans import plan_done, plan_of

FLOOR = (6, 4, NONE)


def cells_in(stretches):
    return [(x + i, y) for x, y, many in stretches for i in range(many)]


def numbered(wide, high, first):
    """A picture whose shades are all unlike."""
    return [[(1, first + wide * y + x) for x in range(wide)] for y in range(high)]


class PlanOfTest(unittest.TestCase):
    def assert_plan(self, rows, floor, name, x, y):
        kept = copy.deepcopy(rows)
        plan = plan_of(rows, floor, name, x, y)
        self.assertIs(type(plan), tuple)
        self.assertEqual([type(thing) for thing in plan], [tuple, list, list])
        row = [other for other in rows if other[0] == name][0]
        self.assertEqual(plan[0], (x - row[2], y - row[3]))
        self.assertEqual(plan[1], copies_of(rows, floor, name, x, y))
        behind = deed_done(rows, ("move", name, x, y))
        boxes = places_due(rows, floor, name) + places_due(behind, floor, name)
        copied = cells_in(plan[1])
        rest = {cell for box in boxes for cell in cells_of(box)} - set(copied)
        self.assertEqual(plan[2], stretches_of(list(rest)))
        self.assert_carried_out(plan, rows, behind, floor)
        self.assertEqual(rows, kept)
        return plan

    def assert_carried_out(self, plan, rows, behind, floor):
        old, new = picture_of(rows, floor), picture_of(behind, floor)
        drawn = cells_in(plan[2])
        # Only the drawn cells may be read from the picture behind.
        alone = [[new[y][x] if (x, y) in drawn else "none" for x in range(floor[0])] for y in range(floor[1])]
        self.assertEqual(plan_done(plan, old, alone), new)

    def test_a_plate(self):
        plan = self.assert_plan([plate("a", 3, 2)], FLOOR, "a", 1, 1)
        self.assertEqual(plan, ((1, 1), [(1, 1, 3), (1, 2, 3)], [(0, 0, 3), (0, 1, 1)]))

    def test_to_the_same_place(self):
        plan = self.assert_plan([plate("a", 3, 2)], FLOOR, "a", 0, 0)
        self.assertEqual(plan, ((0, 0), [], [(0, 0, 3), (0, 1, 3)]))

    def test_not_shown(self):
        plan = self.assert_plan([plate("a", 3, 2, shown=False)], FLOOR, "a", 1, 1)
        self.assertEqual(plan, ((1, 1), [], []))

    def test_nothing_copied(self):
        plan = self.assert_plan([plate("a", 2, 1, share=HALF)], FLOOR, "a", 1, 0)
        self.assertEqual(plan, ((1, 0), [], [(0, 0, 3)]))

    def test_off_the_floor_and_onto_it(self):
        self.assertEqual(self.assert_plan([plate("a", 2, 1)], FLOOR, "a", 60, 0), ((60, 0), [], [(0, 0, 2)]))
        self.assertEqual(self.assert_plan([plate("a", 2, 1, x=-9)], FLOOR, "a", 0, 0), ((9, 0), [], [(0, 0, 2)]))

    def test_a_part_of_a_mask(self):
        rows = [part("m", "mask"), plate("s", 2, 2, holder="m"), plate("a", 6, 4, HALF, holder="m")]
        self.assertEqual(self.assert_plan(rows, FLOOR, "s", 1, 0), ((1, 0), [], [(0, 0, 3), (0, 1, 3)]))

    def test_refused_as_the_move_is(self):
        with self.assertRaises(NoName):
            plan_of([plate("a")], FLOOR, "b", 0, 0)
        with self.assertRaises(NoPart):
            plan_of([plate("a")], FLOOR, "a", 0, -61)

    def test_some_scenes(self):
        for seed in range(14000, 14100):
            chance = Random(seed)
            rows = some_scene(chance)
            floor = some_floor(chance)
            for row in rows:
                self.assert_plan(rows, floor, row[0], row[2] + chance.randint(-2, 2), row[3] + chance.randint(-2, 2))

    def test_told_lists_are_the_askers_own(self):
        rows = [plate("a", 3, 2)]
        plan = plan_of(rows, FLOOR, "a", 1, 1)
        plan[1].clear()
        plan[2].clear()
        self.assertEqual(plan_of(rows, FLOOR, "a", 1, 1), ((1, 1), [(1, 1, 3), (1, 2, 3)], [(0, 0, 3), (0, 1, 1)]))


class PlanDoneTest(unittest.TestCase):
    def test_of_nothing(self):
        old = numbered(3, 2, 1)
        self.assertEqual(plan_done(((1, 1), [], []), old, numbered(3, 2, 100)), old)

    def test_copies_are_read_from_the_old_picture_as_it_was(self):
        old = numbered(4, 1, 1)
        behind = numbered(4, 1, 100)
        self.assertEqual(plan_done(((1, 0), [(1, 0, 3)], []), old, behind), [[(1, 1), (1, 1), (1, 2), (1, 3)]])
        self.assertEqual(plan_done(((-1, 0), [(0, 0, 3)], []), old, behind), [[(1, 2), (1, 3), (1, 4), (1, 4)]])

    def test_copies_by_rows_either_way(self):
        old = numbered(1, 4, 1)
        behind = numbered(1, 4, 100)
        down = plan_done(((0, 1), [(0, 1, 1), (0, 2, 1), (0, 3, 1)], []), old, behind)
        self.assertEqual(down, [[(1, 1)], [(1, 1)], [(1, 2)], [(1, 3)]])
        up = plan_done(((0, -2), [(0, 1, 1), (0, 0, 1)], []), old, behind)
        self.assertEqual(up, [[(1, 3)], [(1, 4)], [(1, 3)], [(1, 4)]])

    def test_drawn_cells_are_as_in_the_picture_behind(self):
        old = numbered(3, 2, 1)
        told = plan_done(((0, 0), [], [(1, 0, 2), (0, 1, 1)]), old, numbered(3, 2, 100))
        self.assertEqual(told, [[(1, 1), (1, 101), (1, 102)], [(1, 103), (1, 5), (1, 6)]])

    def test_a_cell_that_is_copied_and_drawn_is_as_in_the_picture_behind(self):
        old = numbered(3, 1, 1)
        told = plan_done(((1, 0), [(1, 0, 2)], [(2, 0, 1)]), old, numbered(3, 1, 100))
        self.assertEqual(told, [[(1, 1), (1, 1), (1, 102)]])

    def test_lists(self):
        old = numbered(3, 2, 1)
        behind = numbered(3, 2, 100)
        plan = ((1, 0), [(1, 0, 2)], [(0, 1, 3)])
        kept = copy.deepcopy((plan, old, behind))
        told = plan_done(plan, old, behind)
        due = copy.deepcopy(told)
        for row in told:
            row.clear()
        told.clear()
        self.assertEqual((plan, old, behind), kept)
        self.assertEqual(plan_done(plan, old, behind), due)
        again = plan_done(((1, 0), [], []), old, behind)
        old[0].clear()
        behind.clear()
        self.assertEqual(again, kept[1])


if __name__ == "__main__":
    unittest.main()
