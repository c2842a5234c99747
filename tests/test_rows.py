import unittest

from scenemend.rows import is_row

ONE = (1, 1)
HALF = (1, 2)
NONE = (0, 1)
GREAT = 10 ** 299

# One row's data of each kind that is plainly right.
RIGHT = {
    "plate": (3, 4, HALF, ONE),
    "band": (-3, 4, HALF, ONE),
    "word": ("0a", HALF, ONE),
    "stencil": (("#.", ".#"), HALF, ONE),
    "group": (),
    "glass": (HALF,),
    "window": (5, 6, -7, 8),
    "turn": (1, True),
    "tiles": (2, 3, -4, 5),
    "mask": (),
}
# For each place in the data: the kind of thing that stands there.
FORMS = {
    "plate": ("size", "size", "share", "share"),
    "band": ("step", "step", "share", "share"),
    "word": ("text", "share", "share"),
    "stencil": ("rows", "share", "share"),
    "group": (),
    "glass": ("share",),
    "window": ("pane", "pane", "place", "place"),
    "turn": ("quarters", "truth"),
    "tiles": ("many", "many", "laying", "laying"),
    "mask": (),
}
BOUNDS = {
    "size": (1, 12), "step": (-12, 12), "pane": (1, 16), "place": (-60, 60),
    "quarters": (0, 3), "many": (1, 3), "laying": (-20, 20),
}
NO_NUMBERS = (True, False, "", "1", (), (1,), HALF)
RIGHT_SHARES = (NONE, ONE, HALF, (999, 1000), (1, 1000), (500, 997))
WRONG_SHARES = (
    (2, 4), (0, 2), (3, 3), (1, 1001), (1000, 1001), (500, 1002), (3, 2), (2, 1), (-1, 2), (1, 0), (0, 0), (-1, -2),
    (1, -2), (True, 1), (False, 1), (1, True), (0, True), (1,), (1, 2, 3), (), ("1", "2"), "1/2", "", 0, 1, True,
    False, ((1, 2),), ((1, 2), (1, 2)), (1, (2,)), (1, GREAT), (GREAT, GREAT),
)
RIGHT_TEXTS = ("", "0", "012345", "6789ab", "cdef-_", "______")
WRONG_TEXTS = ("0123456", "g", "A", " ", "0 ", ".", "#", "~", "F", "0\n", 0, 1, True, (), ("0",), ("0", "1"))
RIGHT_STENCILS = (
    (".",), ("#",), ("#.", ".."), ("########",), ("#",) * 8, ("########",) * 8, ("...", "...", "..."),
)
WRONG_STENCILS = (
    (), ("",), ("", ""), ("#########",), ("#",) * 9, ("#########",) * 8, ("########",) * 9, ("##", "#"), ("#", "##"),
    ("##", "##", "#"), ("##", "", "##"), ("#x",), ("# ",), ("##", "_#"), ("##\n",), "##", "", "#", 1, True,
    (1,), (True,), (("#",),), ("#", 1), ("#", True), ("#", ("#",)), (("#", "."),),
)


def row(name="a", holder="", x=0, y=0, shown=True, kind="plate", data=RIGHT["plate"]):
    return (name, holder, x, y, shown, kind, data)


def with_datum(kind, place, datum):
    data = RIGHT[kind]
    return row(kind=kind, data=data[:place] + (datum,) + data[place + 1:])


class RowCase(unittest.TestCase):
    def assert_row(self, thing):
        self.assertIs(is_row(thing), True, thing)

    def assert_no_row(self, thing):
        self.assertIs(is_row(thing), False, thing)


class HeadTest(RowCase):
    def test_names(self):
        for name in ("a", "z", "0", "9", "abcdefgh", "01234567", "a1b2c3d4", "part9"):
            self.assert_row(row(name=name))
            self.assert_row(row(holder=name))
        wrong = ("abcdefghi", "A", "aB", "a_b", "a-b", " ", "a ", " a", "a.b", ".", "~", "a\n", "#", "/", ":", "{", "`")
        for name in wrong:
            self.assert_no_row(row(name=name))
            self.assert_no_row(row(holder=name))

    def test_no_name_and_no_holder(self):
        self.assert_no_row(row(name=""))
        self.assert_row(row(holder=""))
        self.assert_no_row(row(name="", holder="a"))

    def test_name_and_holder_alike_is_still_a_row(self):
        self.assert_row(row(name="a", holder="a"))

    def test_places(self):
        for number in (-60, -59, -1, 0, 1, 59, 60):
            self.assert_row(row(x=number))
            self.assert_row(row(y=number))
        for number in (-61, 61, -1000, 1000, GREAT, -GREAT, True, False):
            self.assert_no_row(row(x=number))
            self.assert_no_row(row(y=number))

    def test_shown(self):
        self.assert_row(row(shown=True))
        self.assert_row(row(shown=False))
        for number in (0, 1, 2, -1, GREAT):
            self.assert_no_row(row(shown=number))

    def test_kinds(self):
        for kind, data in RIGHT.items():
            self.assert_row(row(kind=kind, data=data))
        for kind in ("", "plates", "Plate", "plate ", "leaf", "floor", "tile", "rows"):
            for data in RIGHT.values():
                self.assert_no_row(row(kind=kind, data=data))

    def test_data_of_another_kind(self):
        alike = {("plate", "band"), ("tiles", "window"), ("group", "mask"), ("mask", "group")}
        for kind in RIGHT:
            for other, data in RIGHT.items():
                due = kind == other or (other, kind) in alike
                self.assertIs(is_row(row(kind=kind, data=data)), due, (kind, other))


class DataTest(RowCase):
    def each_place(self, *forms):
        for kind, told in FORMS.items():
            for place, form in enumerate(told):
                if form in forms:
                    yield kind, place, form

    def test_numbers_at_their_bounds_and_one_beyond(self):
        for kind, place, form in self.each_place(*BOUNDS):
            low, high = BOUNDS[form]
            for number in (low, low + 1, high - 1, high):
                self.assert_row(with_datum(kind, place, number))
            for number in (low - 1, high + 1, -GREAT, GREAT):
                self.assert_no_row(with_datum(kind, place, number))

    def test_other_things_in_a_numbers_stead(self):
        for kind, place, form in self.each_place(*BOUNDS):
            for thing in NO_NUMBERS:
                self.assert_no_row(with_datum(kind, place, thing))

    def test_shades_and_shares(self):
        for kind, place, form in self.each_place("share"):
            for share in RIGHT_SHARES:
                self.assert_row(with_datum(kind, place, share))
            for thing in WRONG_SHARES:
                self.assert_no_row(with_datum(kind, place, thing))

    def test_truths(self):
        for kind, place, form in self.each_place("truth"):
            self.assert_row(with_datum(kind, place, True))
            self.assert_row(with_datum(kind, place, False))
            for thing in (0, 1, 2, "", "True", (), (True,)):
                self.assert_no_row(with_datum(kind, place, thing))

    def test_texts(self):
        for kind, place, form in self.each_place("text"):
            for text in RIGHT_TEXTS:
                self.assert_row(with_datum(kind, place, text))
            for thing in WRONG_TEXTS:
                self.assert_no_row(with_datum(kind, place, thing))

    def test_stencil_rows(self):
        for kind, place, form in self.each_place("rows"):
            for rows in RIGHT_STENCILS:
                self.assert_row(with_datum(kind, place, rows))
            for thing in WRONG_STENCILS:
                self.assert_no_row(with_datum(kind, place, thing))

    def test_a_datum_too_many_or_too_few(self):
        for kind, data in RIGHT.items():
            for more in (0, 1, True, False, "", HALF, ()):
                self.assert_no_row(row(kind=kind, data=data + (more,)))
                self.assert_no_row(row(kind=kind, data=(more,) + data))
            for place in range(len(data)):
                self.assert_no_row(row(kind=kind, data=data[:place] + data[place + 1:]))
            if data:
                self.assert_no_row(row(kind=kind, data=()))
                self.assert_no_row(row(kind=kind, data=(data,)))


if __name__ == "__main__":
    unittest.main()
