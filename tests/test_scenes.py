import copy
import unittest

from helping import HALF, HOLDERS, LEAVES, NONE, ONE, part, plate
from scenemend.errors import Nested, NoHolder, NoName, NoPart, SceneError, TooDeep, TooMany, Twice
from scenemend.scenes import holders_of, kids_of, parts_in, row_of, vet

DATA = {
    "plate": (1, 1, ONE, ONE), "band": (1, 1, ONE, ONE), "word": ("0", ONE, ONE), "stencil": (("#",), ONE, ONE),
    "group": (), "glass": (HALF,), "window": (1, 1, 0, 0), "turn": (0, False), "tiles": (1, 1, 0, 0), "mask": (),
}
# A tree: the floor holds a and d; a holds b and e; b holds c and f; d holds g.
TREE = [
    part("a", "group"),
    part("b", "glass", HALF, holder="a"),
    plate("c", holder="b"),
    part("d", "mask", shown=False),
    plate("e", holder="a"),
    plate("f", holder="b", shown=False),
    plate("g", holder="d"),
]


def of_kind(name, kind, holder=""):
    return part(name, kind, *DATA[kind], holder=holder)


def chain(many, kinds=("group",)):
    """Holders h0, h1 .., each in the one ahead."""
    rows = []
    for count in range(many):
        holder = "" if count == 0 else "h" + str(count - 1)
        rows.append(of_kind("h" + str(count), kinds[count % len(kinds)], holder))
    return rows


class VetCase(unittest.TestCase):
    def assert_refused(self, rows, refusal):
        kept = copy.deepcopy(rows)
        with self.assertRaises(refusal) as caught:
            vet(rows)
        self.assertIs(type(caught.exception), refusal)
        self.assertIsInstance(caught.exception, SceneError)
        self.assertEqual(rows, kept)


class ScenesTest(VetCase):
    def test_scenes(self):
        for rows in ([], TREE, [plate("a")], chain(7), chain(7, ("group", "turn"))):
            kept = copy.deepcopy(rows)
            self.assertIs(vet(rows), True)
            self.assertEqual(rows, kept)

    def test_every_holder_holds_every_kind(self):
        for holder in HOLDERS:
            for kind in LEAVES + HOLDERS:
                rows = [of_kind("a", holder), of_kind("b", kind, "a")]
                if holder == kind == "tiles":
                    self.assert_refused(rows, Nested)
                else:
                    self.assertIs(vet(rows), True)

    def test_twenty_four_and_one_more(self):
        rows = [plate("p" + str(count)) for count in range(24)]
        self.assertIs(vet(rows), True)
        self.assert_refused(rows + [plate("q")], TooMany)
        self.assert_refused(rows + [plate("q" + str(count)) for count in range(100)], TooMany)


class RefusalsTest(VetCase):
    def test_no_part(self):
        self.assert_refused([plate("A")], NoPart)
        self.assert_refused([plate("")], NoPart)
        self.assert_refused([plate("a", x=61)], NoPart)
        self.assert_refused([plate("a"), plate("b", w=13)], NoPart)
        self.assert_refused([part("a", "group", 1)], NoPart)
        self.assert_refused([part("a", "grope")], NoPart)
        self.assert_refused([("a", "", 0, 0, 1, "group", ())], NoPart)
        self.assert_refused([("a", "", True, 0, True, "group", ())], NoPart)

    def test_twice(self):
        self.assert_refused([plate("a"), plate("a")], Twice)
        self.assert_refused([part("a", "group"), plate("b"), plate("a", holder="a")], Twice)

    def test_no_holder(self):
        self.assert_refused([plate("a", holder="b")], NoHolder)
        self.assert_refused([plate("a", holder="a")], NoHolder)
        self.assert_refused([part("a", "group", holder="a")], NoHolder)
        self.assert_refused([plate("a", holder="b"), part("b", "group")], NoHolder)
        for leaf in LEAVES:
            self.assert_refused([of_kind("a", leaf), plate("b", holder="a")], NoHolder)

    def test_too_deep(self):
        self.assertIs(vet(chain(6) + [plate("p", holder="h5")]), True)
        self.assertIs(vet(chain(7)), True)
        self.assert_refused(chain(7) + [plate("p", holder="h6")], TooDeep)
        self.assert_refused(chain(8), TooDeep)
        for kind in ("glass", "window", "turn", "mask"):
            self.assert_refused(chain(8, (kind,)), TooDeep)

    def test_nested(self):
        self.assert_refused(chain(2, ("tiles",)), Nested)
        self.assert_refused(chain(4, ("tiles", "group", "mask")), Nested)
        rows = [of_kind("a", "tiles"), of_kind("b", "tiles"), of_kind("c", "mask", "a"), of_kind("d", "group", "c")]
        self.assertIs(vet(rows), True)
        self.assert_refused(rows + [of_kind("e", "tiles", "d")], Nested)
        self.assertIs(vet([of_kind("a", "group"), of_kind("b", "tiles", "a"), of_kind("c", "tiles", "a")]), True)


class FirstRefusalTest(VetCase):
    def test_first_of_those_that_hold_for_one_row(self):
        # NoPart ahead of Twice, NoHolder, TooDeep and Nested.
        self.assert_refused([plate("a"), plate("a", w=0, holder="zz")], NoPart)
        # Twice ahead of NoHolder.
        self.assert_refused([plate("a"), plate("a", holder="zz")], Twice)
        deep = chain(7, ("tiles", "group", "group", "group", "group", "group", "group"))
        # Twice ahead of TooDeep and Nested.
        self.assert_refused(deep + [of_kind("h0", "tiles", "h6")], Twice)
        # TooDeep ahead of Nested.
        self.assert_refused(deep + [of_kind("z", "tiles", "h6")], TooDeep)
        self.assert_refused(deep + [of_kind("z", "tiles", "h5")], Nested)
        # NoPart ahead of TooDeep and Nested.
        self.assert_refused(deep + [part("z", "tiles", 4, 1, 0, 0, holder="h6")], NoPart)

    def test_first_row_with_a_fault(self):
        faults = [
            (plate("b", w=0), NoPart), (plate("a"), Twice), (plate("b", holder="zz"), NoHolder),
            (of_kind("b", "tiles", "t"), Nested),
        ]
        for row, refusal in faults:
            for later, other in faults:
                self.assert_refused([plate("a"), of_kind("t", "tiles"), row, later], refusal)

    def test_any_fault_ahead_of_too_many(self):
        rows = [plate("p" + str(count)) for count in range(40)]
        self.assert_refused(rows + [plate("p7")], Twice)
        self.assert_refused(rows + [plate("A")], NoPart)
        self.assert_refused(rows + [plate("z", holder="p7")], NoHolder)
        self.assert_refused(rows + [plate("z")], TooMany)


class AskingTest(unittest.TestCase):
    def test_row_of(self):
        for row in TREE:
            self.assertEqual(row_of(TREE, row[0]), row)

    def test_row_of_no_part(self):
        for rows in ([], TREE):
            for name in ("", "z", "aa", "A", "group"):
                with self.assertRaises(NoName):
                    row_of(rows, name)

    def test_kids_of(self):
        due = {"": ["a", "d"], "a": ["b", "e"], "b": ["c", "f"], "c": [], "d": ["g"], "e": [], "f": [], "g": []}
        for name, kids in due.items():
            self.assertEqual(kids_of(TREE, name), kids)
        self.assertEqual(kids_of([], ""), [])

    def test_holders_of(self):
        due = {"a": [], "b": ["a"], "c": ["b", "a"], "d": [], "e": ["a"], "f": ["b", "a"], "g": ["d"]}
        for name, holders in due.items():
            self.assertEqual(holders_of(TREE, name), holders)
        deep = chain(7)
        self.assertEqual(holders_of(deep, "h6"), ["h5", "h4", "h3", "h2", "h1", "h0"])

    def test_parts_in(self):
        due = {"a": ["b", "c", "e", "f"], "b": ["c", "f"], "c": [], "d": ["g"], "e": [], "f": [], "g": []}
        for name, parts in due.items():
            self.assertEqual(parts_in(TREE, name), parts)
        self.assertEqual(parts_in(chain(7), "h2"), ["h3", "h4", "h5", "h6"])

    def test_a_name_of_no_part_has_nothing(self):
        for ask in (kids_of, holders_of, parts_in):
            self.assertEqual(ask(TREE, "z"), [])
            self.assertEqual(ask([], "z"), [])

    def test_lists_are_the_askers_own(self):
        rows = copy.deepcopy(TREE)
        for ask in (kids_of, holders_of, parts_in):
            for name in ("a", "b", "c"):
                due = list(ask(rows, name))
                told = ask(rows, name)
                self.assertIs(type(told), list)
                told.append("x")
                told[0] = "y"
                self.assertEqual(ask(rows, name), due)
        self.assertEqual(rows, TREE)


if __name__ == "__main__":
    unittest.main()
