import copy
import unittest
from random import Random

from helping import (
    HALF, LEAVES, NONE, ONE, above, floor_layers, own_numbers, part, plate, row_named, some_floor, some_scene, under_due,
)
from scenemend.copies import copies_of
from scenemend.deeds import deed_done
from scenemend.drawing import picture_of
from scenemend.errors import NoName, NoPart
from scenemend.scenes import parts_in, vet

FLOOR = (8, 5, (1, 4))


def cells_in(stretches):
    return [(x + i, y) for x, y, many in stretches for i in range(many)]


def copied_due(rows, floor, name, x, y):
    """The copied cells by the words of the promise, cell by cell of the floor."""
    chain = [row_named(rows, other) for other in above(rows, name)]
    dx, dy = x - chain[0][2], y - chain[0][3]
    if (dx, dy) == (0, 0) or not all(row[4] for row in chain):
        return []
    if not all(row[5] in ("group", "window") for row in chain[1:]):
        return []
    left = sum(row[2] for row in chain) - sum(row[6][2] for row in chain[1:] if row[5] == "window")
    top = sum(row[3] for row in chain) - sum(row[6][3] for row in chain[1:] if row[5] == "window")
    names = [name] + parts_in(rows, name)
    ahead = floor_layers(rows)
    behind = floor_layers(deed_done(rows, ("move", name, x, y)))
    own = own_numbers(rows, chain[0])
    cells = []
    for cy in range(max(0, dy), min(floor[1], floor[1] + dy)):
        for cx in range(max(0, dx), min(floor[0], floor[0] + dx)):
            first = under_due(ahead, cx - dx, cy - dy)[:1]
            second = under_due(behind, cx, cy)[:1]
            seen = first and second and first[0] in names and second[0] in names
            if seen and own.get((cx - dx - left, cy - dy - top), (0, 0))[1] == 1:
                cells.append((cx, cy))
    return cells


def plainer(chance, rows):
    """The scene with more groups and full covers, so that more is copied."""
    told = []
    for row in rows:
        if chance.random() < 0.7:
            if row[5] in LEAVES:
                row = row[:6] + (row[6][:-1] + (ONE,),)
            elif row[5] != "window":
                row = row[:5] + ("group", ())
        told.append(row)
    return told


class CopiesTest(unittest.TestCase):
    def assert_copies(self, rows, name, x, y, due, floor=FLOOR):
        self.assertIs(vet(rows), True)
        kept = copy.deepcopy(rows)
        told = copies_of(rows, floor, name, x, y)
        self.assertEqual(told, due)
        self.assertIs(type(told), list)
        self.assert_shades_are_due(rows, floor, name, x, y, told)
        told.append("x")
        self.assertEqual(copies_of(rows, floor, name, x, y), due)
        self.assertEqual(rows, kept)

    def assert_shades_are_due(self, rows, floor, name, x, y, told):
        row = row_named(rows, name)
        dx, dy = x - row[2], y - row[3]
        old = picture_of(rows, floor)
        new = picture_of(deed_done(rows, ("move", name, x, y)), floor)
        for cx, cy in cells_in(told):
            self.assertEqual(new[cy][cx], old[cy - dy][cx - dx])

    def test_a_plate_on_the_floor(self):
        rows = [plate("a", 3, 2)]
        self.assert_copies(rows, "a", 1, 1, [(1, 1, 3), (1, 2, 3)])
        self.assert_copies(rows, "a", 5, 3, [(5, 3, 3), (5, 4, 3)])

    def test_to_the_same_place(self):
        self.assert_copies([plate("a", 3, 2, x=2)], "a", 2, 0, [])

    def test_only_where_both_cells_lie_on_the_floor(self):
        self.assert_copies([plate("a", 3, 2, x=-1)], "a", 0, 1, [(1, 1, 2), (1, 2, 2)])
        self.assert_copies([plate("a", 3, 2)], "a", 6, 4, [(6, 4, 2)])
        self.assert_copies([plate("a", 3, 2)], "a", -2, 0, [(0, 0, 1), (0, 1, 1)])
        self.assert_copies([plate("a", 3, 2)], "a", 8, 0, [])
        self.assert_copies([plate("a", 3, 2, x=-3)], "a", 0, 0, [])

    def test_cover_less_than_one(self):
        self.assert_copies([plate("a", 3, 2, share=(999, 1000))], "a", 1, 1, [])
        rows = [part("g", "group"), plate("a", 3, 1, share=HALF, holder="g"), plate("b", holder="g", x=1)]
        self.assert_copies(rows, "g", 0, 1, [(1, 1, 1)])
        self.assert_copies(rows, "b", 1, 2, [(1, 2, 1)])
        rows = [part("g", "glass", HALF), plate("a", 3, 1, holder="g")]
        self.assert_copies(rows, "g", 0, 1, [])

    def test_what_lies_over_it_ahead_or_behind(self):
        rows = [plate("a", 4, 1), plate("b", x=1, share=(1, 1000)), plate("c", x=2, y=1, share=(1, 1000))]
        self.assert_copies(rows, "a", 0, 1, [(0, 1, 1), (3, 1, 1)])
        self.assert_copies([rows[0], plate("b", x=1, share=NONE)], "a", 0, 1, [(0, 1, 4)])

    def test_what_lies_beneath_it_does_not_matter(self):
        rows = [plate("b", 8, 1, HALF), plate("a", 2, 2)]
        self.assert_copies(rows, "a", 3, 1, [(3, 1, 2), (3, 2, 2)])

    def test_not_shown(self):
        self.assert_copies([plate("a", 2, 2, shown=False)], "a", 1, 1, [])
        self.assert_copies([part("g", "group", shown=False), plate("a", 2, 2, holder="g")], "a", 1, 1, [])

    def test_holders_that_are_groups_and_windows_alone(self):
        for kind, data in (
            ("glass", (ONE,)), ("turn", (0, False)), ("tiles", (1, 1, 0, 0)), ("mask", ()),
        ):
            rows = [part("g", "group"), part("h", kind, *data, holder="g")]
            if kind == "mask":
                rows.append(plate("s", 9, 9, holder="h"))
            rows += [part("i", "group", holder="h"), plate("a", 2, 2, holder="i")]
            self.assert_copies(rows, "a", 1, 1, [])
            self.assert_copies(rows, "i", 1, 1, [])
            self.assert_copies(rows, "h", 1, 1, [(1, 1, 2), (1, 2, 2)])

    def test_in_groups_and_windows(self):
        rows = [
            part("g", "group", x=1), part("w", "window", 4, 3, 2, 1, holder="g", x=1, y=1), part("h", "group", holder="w", y=1),
            plate("a", 3, 2, holder="h", x=2),
        ]
        self.assert_copies(rows, "a", 3, 1, [(3, 2, 3), (3, 3, 3)])
        # The window cuts the right half behind, and had cut the upper row ahead.
        self.assert_copies(rows, "a", 4, 0, [(4, 1, 2), (4, 2, 2)])
        rows[3] = plate("a", 3, 2, holder="h", x=2, y=-1)
        self.assert_copies(rows, "a", 3, 1, [(3, 3, 3)])

    def test_any_kind_may_be_moved(self):
        rows = [part("m", "mask"), plate("s", 2, 1, holder="m"), plate("a", 9, 9, holder="m")]
        self.assert_copies(rows, "m", 3, 3, [(3, 3, 2)])
        rows = [part("t", "tiles", 2, 1, 3, 0), plate("a", 2, 1, holder="t")]
        self.assert_copies(rows, "t", 1, 1, [(1, 1, 2), (4, 1, 2)])
        rows = [part("t", "turn", 1, False, x=3), plate("a", 2, 1, holder="t")]
        self.assert_copies(rows, "t", 4, 1, [(4, 1, 1), (4, 2, 1)])
        self.assert_copies([part("a", "word", "7", ONE, ONE)], "a", 1, 0,
                           [(1, 0, 3), (3, 1, 1), (3, 2, 1), (3, 3, 1), (3, 4, 1)])
        self.assert_copies([part("a", "band", 2, 2, HALF, ONE)], "a", 2, 2, [(2, 2, 1), (3, 3, 1), (4, 4, 1)])
        self.assert_copies([part("a", "stencil", ("#.#",), HALF, ONE)], "a", 1, 0, [(1, 0, 1), (3, 0, 1)])

    def test_refused_as_the_move_is(self):
        with self.assertRaises(NoName):
            copies_of([plate("a")], FLOOR, "b", 0, 0)
        with self.assertRaises(NoPart):
            copies_of([plate("a")], FLOOR, "a", 61, 0)

    def test_some_scenes(self):
        copied = 0
        for seed in range(13000, 13120):
            chance = Random(seed)
            rows = plainer(chance, some_scene(chance))
            floor = some_floor(chance)
            for row in rows:
                x, y = row[2] + chance.randint(-2, 2), row[3] + chance.randint(-2, 2)
                told = copies_of(rows, floor, row[0], x, y)
                self.assertEqual(cells_in(told), copied_due(rows, floor, row[0], x, y))
                self.assert_shades_are_due(rows, floor, row[0], x, y, told)
                copied += len(cells_in(told))
        self.assertGreater(copied, 1000)


if __name__ == "__main__":
    unittest.main()
