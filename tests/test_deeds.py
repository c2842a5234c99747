import copy
import unittest
from random import Random

from helping import HALF, LEAVES, NONE, ONE, part, plate, some_deed, some_scene
from scenemend.deeds import deed_done, touched_by
from scenemend.errors import (
    Nested, NoHolder, NoName, NoPart, SceneError, TooDeep, TooMany, Twice, WrongKind,
)
from scenemend.scenes import vet

GREAT = 10 ** 299
# The floor holds g, m and p; g holds a, t and w; t holds b; m holds s (its stencil), k and c; k holds d.
ROWS = [
    part("g", "group"),
    plate("a", 2, 2, holder="g"),
    part("m", "mask"),
    plate("s", 3, 3, holder="m"),
    part("t", "turn", 1, True, holder="g"),
    plate("b", holder="t"),
    part("k", "group", holder="m"),
    part("w", "window", 5, 5, 1, 2, holder="g"),
    plate("c", holder="m"),
    plate("d", holder="k"),
    plate("p", 1, 2, HALF, HALF, x=7),
]
NAMES = [row[0] for row in ROWS]
# One deed of each kind but put that is done on the part it names.
ONE_EACH = (
    ("move", "p", 1, 2), ("hide", "p"), ("show", "p"), ("turn", "t", 1), ("size", "p", 3, 4),
    ("change", "p", (1, 1, ONE, ONE)), ("take", "p"), ("raise", "p"), ("sink", "p"),
)


def with_row(row):
    return [row if other[0] == row[0] else other for other in ROWS]


def named(deed, name):
    return deed[:1] + (name,) + deed[2:]


class DeedCase(unittest.TestCase):
    def assert_done(self, deed, due, rows=ROWS):
        kept = copy.deepcopy(rows)
        told = deed_done(rows, deed)
        self.assertEqual(told, due)
        self.assertIs(type(told), list)
        self.assertIs(vet(told), True)
        told.append("x")
        told[0] = "y"
        self.assertEqual(deed_done(rows, deed), due)
        self.assertEqual(rows, kept)

    def assert_refused(self, deed, refusal, rows=ROWS):
        kept = copy.deepcopy(rows)
        with self.assertRaises(refusal) as caught:
            deed_done(rows, deed)
        self.assertIs(type(caught.exception), refusal)
        self.assertEqual(rows, kept)

    def assert_names(self, deed, due):
        told = deed_done(ROWS, deed)
        self.assertEqual([row[0] for row in told], due)
        self.assertEqual(sorted(told), sorted(row for row in ROWS if row[0] in due))
        self.assert_done(deed, told)


class RowDeedsTest(DeedCase):
    def test_move(self):
        self.assert_done(("move", "a", -60, 60), with_row(plate("a", 2, 2, holder="g", x=-60, y=60)))
        self.assert_done(("move", "m", 1, 2), with_row(part("m", "mask", x=1, y=2)))
        self.assert_done(("move", "p", 7, 0), ROWS)
        for x, y in ((61, 0), (-61, 0), (0, 61), (0, -61), (GREAT, 0)):
            self.assert_refused(("move", "a", x, y), NoPart)

    def test_hide_and_show(self):
        hidden = with_row(plate("a", 2, 2, holder="g", shown=False))
        self.assert_done(("hide", "a"), hidden)
        self.assert_done(("show", "a"), ROWS)
        self.assert_done(("hide", "a"), hidden, hidden)
        self.assert_done(("show", "a"), ROWS, hidden)

    def test_turn(self):
        for own in range(4):
            rows = with_row(part("t", "turn", own, True, holder="g"))
            for more in (0, 1, 2, 3, 4, 5, -1, -2, -3, -4, -5, -6, GREAT, -GREAT, GREAT + 3, -GREAT - 1):
                due = with_row(part("t", "turn", (own + more) % 4, True, holder="g"))
                self.assert_done(("turn", "t", more), due, rows)

    def test_turn_keeps_flipped(self):
        rows = [part("t", "turn", 3, False)]
        self.assert_done(("turn", "t", 1), [part("t", "turn", 0, False)], rows)
        self.assert_done(("turn", "t", -4), rows, rows)

    def test_size(self):
        self.assert_done(("size", "p", 12, 1), with_row(plate("p", 12, 1, HALF, HALF, x=7)))
        self.assert_done(("size", "w", 16, 1), with_row(part("w", "window", 16, 1, 1, 2, holder="g")))
        for w, h in ((0, 1), (1, 0), (13, 1), (1, 13), (-1, 1), (GREAT, 1)):
            self.assert_refused(("size", "p", w, h), NoPart)
        for w, h in ((0, 1), (1, 0), (17, 1), (1, 17)):
            self.assert_refused(("size", "w", w, h), NoPart)
        self.assert_done(("size", "w", 13, 13), with_row(part("w", "window", 13, 13, 1, 2, holder="g")))

    def test_change(self):
        self.assert_done(("change", "p", (3, 4, NONE, ONE)), with_row(plate("p", 3, 4, NONE, ONE, x=7)))
        self.assert_done(("change", "t", (0, False)), with_row(part("t", "turn", 0, False, holder="g")))
        self.assert_done(("change", "g", ()), ROWS)
        self.assert_done(("change", "w", (1, 1, -60, 60)), with_row(part("w", "window", 1, 1, -60, 60, holder="g")))

    def test_change_keeps_the_kind(self):
        for data in ((1, 1), ("0", ONE, ONE), (("#",), ONE, ONE), (), (ONE,), (0, False), (1, 1, 0, 0)):
            self.assert_refused(("change", "p", data), NoPart)
        self.assert_refused(("change", "g", (ONE,)), NoPart)
        self.assert_refused(("change", "m", (1,)), NoPart)
        self.assert_refused(("change", "t", (4, False)), NoPart)
        self.assert_refused(("change", "t", (0, 1)), NoPart)
        self.assert_refused(("change", "p", (3, 4, (2, 4), ONE)), NoPart)


class OrderDeedsTest(DeedCase):
    def test_take(self):
        self.assert_names(("take", "p"), [name for name in NAMES if name != "p"])
        self.assert_names(("take", "g"), ["m", "s", "k", "c", "d", "p"])
        self.assert_names(("take", "m"), ["g", "a", "t", "b", "w", "p"])
        self.assert_names(("take", "t"), ["g", "a", "m", "s", "k", "w", "c", "d", "p"])
        self.assert_names(("take", "s"), ["g", "a", "m", "t", "b", "k", "w", "c", "d", "p"])
        self.assert_done(("take", "a"), [], [plate("a")])

    def test_raise(self):
        self.assert_names(("raise", "p"), NAMES)
        self.assert_names(("raise", "a"), ["g", "m", "s", "t", "b", "k", "w", "c", "d", "p", "a"])
        self.assert_names(("raise", "g"), ["m", "s", "k", "c", "d", "p", "g", "a", "t", "b", "w"])
        self.assert_names(("raise", "t"), ["g", "a", "m", "s", "k", "w", "c", "d", "p", "t", "b"])

    def test_raise_of_what_a_mask_holds(self):
        self.assert_names(("raise", "s"), ["g", "a", "m", "t", "b", "k", "w", "c", "d", "p", "s"])
        self.assert_names(("raise", "k"), ["g", "a", "m", "s", "t", "b", "w", "c", "p", "k", "d"])

    def test_sink(self):
        self.assert_names(("sink", "g"), ["g", "a", "t", "b", "w", "m", "s", "k", "c", "d", "p"])
        self.assert_names(("sink", "p"), ["p"] + NAMES[:-1])
        self.assert_names(("sink", "m"), ["m", "s", "k", "c", "d", "g", "a", "t", "b", "w", "p"])
        self.assert_names(("sink", "w"), ["g", "w", "a", "m", "s", "t", "b", "k", "c", "d", "p"])
        self.assert_names(("sink", "t"), ["g", "t", "b", "a", "m", "s", "k", "w", "c", "d", "p"])
        self.assert_names(("sink", "b"), NAMES)

    def test_sink_of_what_a_mask_holds(self):
        self.assert_names(("sink", "c"), ["g", "a", "m", "c", "s", "t", "b", "k", "w", "d", "p"])
        self.assert_names(("sink", "k"), ["g", "a", "m", "k", "d", "s", "t", "b", "w", "c", "p"])
        self.assert_names(("sink", "s"), NAMES)

    def test_put(self):
        for row in (plate("new"), plate("new", holder="m"), part("new", "tiles", 1, 1, 0, 0, holder="k")):
            self.assert_done(("put", row), ROWS + [row])
        self.assert_done(("put", plate("a")), [plate("a")], [])


class RefusalsTest(DeedCase):
    def test_no_name(self):
        for deed in ONE_EACH:
            for name in ("z", "", "gg", "A"):
                self.assert_refused(named(deed, name), NoName)
                self.assert_refused(named(deed, name), NoName, [])

    def test_wrong_kind(self):
        for name in NAMES:
            if name != "t":
                self.assert_refused(("turn", name, 1), WrongKind)
            if name not in ("a", "s", "b", "c", "d", "p", "w"):
                self.assert_refused(("size", name, 1, 1), WrongKind)
        data = {"plate": (1, 1, ONE, ONE), "band": (1, 1, ONE, ONE), "word": ("0", ONE, ONE), "stencil": (("#",), ONE, ONE)}
        for kind in LEAVES:
            rows = [part("a", kind, *data[kind])]
            self.assert_refused(("turn", "a", 1), WrongKind, rows)
            if kind != "plate":
                self.assert_refused(("size", "a", 1, 1), WrongKind, rows)

    def test_which_one_comes_first(self):
        # NoName ahead of NoPart; WrongKind ahead of NoPart.
        self.assert_refused(("move", "z", 99, 99), NoName)
        self.assert_refused(("size", "z", 99, 99), NoName)
        self.assert_refused(("change", "z", ("none",)), NoName)
        self.assert_refused(("size", "g", 99, 99), WrongKind)
        self.assert_refused(("size", "t", 0, 0), WrongKind)

    def test_put_as_vetted(self):
        deep = [part("h0", "group")] + [part("h" + str(k), "group", holder="h" + str(k - 1)) for k in range(1, 7)]
        tiles = [part("t", "tiles", 1, 1, 0, 0)]
        many = [plate("p" + str(count)) for count in range(24)]
        self.assert_refused(("put", plate("new", w=13)), NoPart)
        self.assert_refused(("put", plate("a", w=13)), NoPart)
        self.assert_refused(("put", plate("a")), Twice)
        self.assert_refused(("put", plate("a", holder="z")), Twice)
        self.assert_refused(("put", plate("new", holder="z")), NoHolder)
        self.assert_refused(("put", plate("new", holder="new")), NoHolder)
        self.assert_refused(("put", plate("new", holder="p")), NoHolder)
        self.assert_refused(("put", plate("new", holder="h6")), TooDeep, deep)
        self.assert_refused(("put", part("new", "tiles", 1, 1, 0, 0, holder="t")), Nested, tiles)
        self.assert_refused(("put", plate("new")), TooMany, many)
        self.assert_refused(("put", plate("p0")), Twice, many)
        self.assert_refused(("put", plate("new", h=0)), NoPart, many)

    def test_some_deeds(self):
        for seed in range(200):
            chance = Random(seed)
            rows = some_scene(chance)
            for number in range(10):
                deed = some_deed(chance, rows, number)
                kept = copy.deepcopy(rows)
                try:
                    told = deed_done(rows, deed)
                    self.assertIs(vet(told), True)
                except SceneError:
                    told = rows
                self.assertEqual(rows, kept)
                rows = told


class TouchedTest(unittest.TestCase):
    def assert_touched(self, deed, due):
        kept = copy.deepcopy(ROWS)
        self.assertEqual(touched_by(ROWS, deed), due)
        self.assertEqual(ROWS, kept)

    def test_the_named_one(self):
        for deed in ONE_EACH:
            self.assert_touched(deed, deed[1])
        for name in NAMES:
            for what in ("hide", "show"):
                self.assert_touched((what, name), name)
            self.assert_touched(("move", name, 1, 1), name)
            self.assert_touched(("change", name, ()), name)

    def test_of_what_a_mask_holds_the_mask(self):
        for what in ("take", "raise", "sink"):
            for name in ("s", "k", "c"):
                self.assert_touched((what, name), "m")
            for name in ("g", "a", "t", "b", "w", "p", "m", "d"):
                self.assert_touched((what, name), name)

    def test_put(self):
        self.assert_touched(("put", plate("new")), "new")
        self.assert_touched(("put", plate("new", holder="g")), "new")
        self.assert_touched(("put", plate("new", holder="k")), "new")
        self.assert_touched(("put", plate("new", holder="m")), "m")

    def test_size_and_turn_in_a_mask_touch_the_part_itself(self):
        self.assert_touched(("size", "s", 1, 1), "s")
        self.assert_touched(("size", "c", 1, 1), "c")


if __name__ == "__main__":
    unittest.main()
