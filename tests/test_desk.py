import unittest
from random import Random

from helping import HALF, NONE, ONE, part, places_due, plate, some_deed, some_floor, some_scene
from scenemend.changed import changed_blocks
from scenemend.deeds import deed_done
from scenemend.desk import Desk
from scenemend.drawing import picture_of
from scenemend.errors import (
    Nested, NoHolder, NoName, NoPart, NoRow, NoStep, NoText, SceneError, TooDeep, TooMany, Twice, WrongKind,
)
from scenemend.looking import parts_under
from scenemend.notes import picture_shown, scene_shown

ROWS = [
    part("g", "group", x=1), plate("a", 2, 2, holder="g"), part("t", "turn", 0, False, x=5, y=1),
    plate("b", 2, 1, HALF, holder="t"), part("w", "window", 2, 2, 0, 0), part("h", "tiles", 2, 1, 2, 0, holder="g"),
    plate("c", 1, 1, NONE, holder="h", y=3),
]
FLOOR = (8, 5, (1, 4))
SCENE = "scene 8 5 1/4\n" + scene_shown(ROWS)
NUMBERS_OFF = ("", "00", "-0", "+1", "01", "-01", "1.0", "1/1", "--1", "-", "one", "1_0", "1-")


def new_desk():
    desk = Desk()
    desk.say(SCENE)
    return desk


def stands(desk):
    return (desk.say("picture"), desk.say("text"), desk.say("films"))


def boxes_due(boxes):
    return " ".join(",".join(str(number) for number in box) for box in boxes)


def row_of_deed(deed):
    if deed[0] == "put":
        return "put " + scene_shown([deed[1]])
    return " ".join(str(thing) for thing in deed)


class DeskCase(unittest.TestCase):
    def assert_refused(self, desk, row, refusal):
        kept = stands(desk)
        with self.assertRaises(refusal, msg=row) as caught:
            desk.say(row)
        self.assertIs(type(caught.exception), refusal, row)
        self.assertEqual(stands(desk), kept)

    def assert_stands(self, desk, rows, floor, films):
        self.assertEqual(stands(desk), (picture_shown(picture_of(rows, floor)), scene_shown(rows), str(films)))


class FirstTest(DeskCase):
    def test_of_no_rows_on_the_first_floor(self):
        desk = Desk()
        self.assertEqual(desk.say("picture"), "\n".join([" ".join(["0/1"] * 8)] * 4))
        self.assertEqual(desk.say("text"), "")
        self.assertEqual(desk.say("films"), "1")
        self.assertEqual(desk.say("under 0 0"), "")
        self.assertEqual(desk.say("places a"), "")
        self.assert_refused(desk, "undo", NoStep)
        self.assert_refused(desk, "redo", NoStep)
        self.assert_refused(desk, "hide a", NoName)

    def test_two_desks_beside_one_another(self):
        one, other = Desk(), Desk()
        one.say("put plate a . 0 0 on 1 1 1/1 1/1")
        self.assertEqual(other.say("text"), "")
        self.assertEqual(one.say("text"), "plate a . 0 0 on 1 1 1/1 1/1")


class SceneTest(DeskCase):
    def test_a_new_book_is_kept(self):
        desk = Desk()
        desk.say("put plate z . 0 0 on 1 1 1/1 1/1")
        self.assertEqual(desk.say(SCENE), "ok")
        self.assert_stands(desk, ROWS, FLOOR, 1)
        self.assert_refused(desk, "undo", NoStep)

    def test_without_rows(self):
        desk = new_desk()
        self.assertEqual(desk.say("scene 1 1 1/1\n"), "ok")
        self.assert_stands(desk, [], (1, 1, ONE), 1)
        self.assertEqual(desk.say("scene 24 24 999/1000\n"), "ok")
        self.assert_stands(desk, [], (24, 24, (999, 1000)), 1)

    def test_floors_that_are_none(self):
        desk = new_desk()
        for floor in (
            "0 5 1/4", "8 0 1/4", "25 5 1/4", "8 25 1/4", "-1 5 1/4", "8 5 5/4", "8 5 -1/4", "8 5 2/8", "8 5 1/1001", "8 5 0/2",
            "8 5 1/0", "8 5 1", "8 5 0", "8 5 .25", "8 5", "8 5 1/4 0", "", "8  5 1/4", "8 5 1/4 ", " 8 5 1/4", "08 5 1/4",
            "+8 5 1/4", "8 5 01/4", "1/1 5 1/4", "8 5 1/4/1", "w h ground",
        ):
            self.assert_refused(desk, "scene " + floor + "\n" + scene_shown(ROWS), NoRow)

    def test_rows_that_only_begin_with_scene(self):
        desk = new_desk()
        for row in ("scene", "scene 8 5 1/4", "scenes 8 5 1/4\n", "scene8 5 1/4\n", "scene\n8 5 1/4", "scene\n", "scenery", "scene "):
            self.assert_refused(desk, row, NoRow)
        self.assert_refused(desk, " " + SCENE, NoRow)

    def test_texts_that_write_no_rows(self):
        desk = new_desk()
        for text in ("\n", " ", "x", scene_shown(ROWS) + "\n", "\n" + scene_shown(ROWS), "plate a . 0 0 on 1 1 2/2 1/1"):
            self.assert_refused(desk, "scene 8 5 1/4\n" + text, NoText)

    def test_refused_as_vetted(self):
        desk = new_desk()
        deep = [part("h0", "group")] + [part("h" + str(k), "group", holder="h" + str(k - 1)) for k in range(1, 8)]
        for rows, refusal in (
            ([plate("a"), plate("a")], Twice), ([plate("a", holder="z")], NoHolder), (deep, TooDeep),
            ([part("a", "tiles", 1, 1, 0, 0), part("b", "tiles", 1, 1, 0, 0, holder="a")], Nested),
            ([plate("p" + str(count)) for count in range(25)], TooMany),
        ):
            self.assert_refused(desk, "scene 8 5 1/4\n" + scene_shown(rows), refusal)

    def test_which_one_comes_first(self):
        desk = new_desk()
        self.assert_refused(desk, "scene 0 5 1/4\nx", NoRow)
        self.assert_refused(desk, "scene 0 5 1/4\n" + scene_shown([plate("a")] * 2), NoRow)
        self.assert_refused(desk, "scene 8 5 1/4\n" + scene_shown([plate("a")] * 2) + "\nx", NoText)


class DeedsTest(DeskCase):
    def assert_does(self, deed, due):
        desk = new_desk()
        behind = deed_done(ROWS, deed)
        self.assertEqual(due, boxes_due(changed_blocks(picture_of(ROWS, FLOOR), picture_of(behind, FLOOR))))
        self.assertEqual(desk.say(row_of_deed(deed)), due)
        self.assert_stands(desk, behind, FLOOR, 2)
        self.assertEqual(desk.say("undo"), due)
        self.assert_stands(desk, ROWS, FLOOR, 3)
        self.assertEqual(desk.say("redo"), due)
        self.assert_stands(desk, behind, FLOOR, 4)

    def test_each(self):
        self.assert_does(("move", "a", 1, 0), "1,0,1,2 3,0,1,2")
        self.assert_does(("move", "a", -60, 60), "1,0,2,2")
        self.assert_does(("turn", "t", 1), "6,1,1,1 5,2,1,1")
        self.assert_does(("turn", "t", -4), "")
        self.assert_does(("turn", "t", 10 ** 250 + 1), "6,1,1,1 5,2,1,1")
        self.assert_does(("size", "a", 1, 2), "2,0,1,2")
        self.assert_does(("size", "w", 16, 16), "")
        self.assert_does(("hide", "a"), "1,0,2,2")
        self.assert_does(("show", "a"), "")
        self.assert_does(("raise", "a"), "")
        self.assert_does(("sink", "b"), "")
        self.assert_does(("take", "g"), "1,0,2,2 1,3,1,1 3,3,1,1")
        self.assert_does(("put", plate("new", 1, 2, x=7, y=3)), "7,3,1,2")
        self.assert_does(("put", part("new", "word", "", ONE, ONE)), "")

    def test_refused_as_the_deeds_are(self):
        desk = new_desk()
        for row, refusal in (
            ("move z 0 0", NoName), ("move a 61 0", NoPart), ("move z 61 0", NoName), ("turn a 1", WrongKind),
            ("turn z 1", NoName), ("size t 1 1", WrongKind), ("size a 13 1", NoPart), ("size a 1 0", NoPart),
            ("hide z", NoName), ("show z", NoName), ("raise z", NoName), ("sink z", NoName), ("take z", NoName),
            ("put plate a . 0 0 on 1 1 1/1 1/1", Twice), ("put plate z y 0 0 on 1 1 1/1 1/1", NoHolder),
            ("put tiles z h 0 0 on 1 1 0 0", Nested), ("undo", NoStep), ("redo", NoStep),
        ):
            self.assert_refused(desk, row, refusal)

    def test_put_of_words_that_write_no_row(self):
        desk = new_desk()
        for words in (
            "", " ", "x", "plate z . 0 0 on 1 1 2/2 1/1", "plate z . 0 0 on 1 1 1/1", "plate z . 0 0 on 13 1 1/1 1/1",
            "plate z . 0 0 on 1 1 1/1 1/1 ", " plate z . 0 0 on 1 1 1/1 1/1", "plate z . 00 0 on 1 1 1/1 1/1",
            "group z . 0 0 on\ngroup y . 0 0 on", "group z . 0 0 on\n", "plate Z . 0 0 on 1 1 1/1 1/1",
        ):
            self.assert_refused(desk, "put " + words, NoRow)
        self.assert_refused(desk, "put", NoRow)

    def test_numbers_written_otherwise(self):
        desk = new_desk()
        for number in NUMBERS_OFF:
            for row in (
                "move a " + number + " 0", "move a 0 " + number, "turn t " + number, "size a " + number + " 1",
                "size a 1 " + number, "under " + number + " 0", "under 0 " + number,
            ):
                self.assert_refused(desk, row, NoRow)
            # A row that is none is refused so, whatever else would be refused in it.
            self.assert_refused(desk, "move z " + number + " 0", NoRow)

    def test_redo_behind_a_deed(self):
        desk = new_desk()
        desk.say("hide a")
        desk.say("undo")
        self.assert_refused(desk, "move a 61 0", NoPart)
        self.assertEqual(desk.say("redo"), "1,0,2,2")
        desk.say("undo")
        desk.say("show a")
        self.assert_refused(desk, "redo", NoStep)
        self.assertEqual(desk.say("films"), "6")


class AskingTest(DeskCase):
    def test_under(self):
        desk = new_desk()
        desk.say("put plate over . 1 0 on 1 1 1/1 1/2")
        for x, y, due in ((1, 0, "over a"), (2, 1, "a"), (0, 0, ""), (5, 1, "b"), (-1, 0, ""), (999, -999, ""), (3, 3, "c")):
            self.assertEqual(desk.say("under " + str(x) + " " + str(y)), due)

    def test_places(self):
        desk = new_desk()
        for name, due in (
            ("a", "1,0,2,2"), ("b", "5,1,2,1"), ("c", "1,3,1,1 3,3,1,1"), ("g", "1,0,3,4"), ("w", ""), ("z", ""), ("", ""),
        ):
            self.assertEqual(desk.say("places " + name), due)
            self.assertEqual(due, boxes_due(places_due(ROWS, FLOOR, name)))

    def test_asking_changes_nothing(self):
        desk = new_desk()
        for row in ("picture", "text", "under 0 0", "places a", "films", "picture"):
            desk.say(row)
        self.assert_stands(desk, ROWS, FLOOR, 1)


class NoRowTest(DeskCase):
    def test_a_word_too_few_or_too_many(self):
        desk = new_desk()
        for row in (
            "move a 1 1", "turn t 1", "size a 1 1", "hide a", "show a", "raise a", "sink a", "take a", "undo", "redo",
            "picture", "text", "under 1 1", "places a", "films",
        ):
            self.assert_refused(desk, row + " 1", NoRow)
            self.assert_refused(desk, row + " ", NoRow)
            self.assert_refused(desk, " " + row, NoRow)
            self.assert_refused(desk, row + "\n", NoRow)
            self.assert_refused(desk, "\n" + row, NoRow)
            self.assert_refused(desk, row + "\n" + row, NoRow)
            if " " in row:
                self.assert_refused(desk, row.rpartition(" ")[0], NoRow)
                self.assert_refused(desk, row.replace(" ", "  ", 1), NoRow)
                self.assert_refused(desk, row.replace(" ", "\t", 1), NoRow)

    def test_rows_that_ask_nothing(self):
        desk = new_desk()
        for row in ("", " ", "x", "Move a 1 1", "MOVE a 1 1", "change a", "moves a 1 1", "film", "rows", "\n", "do a", "~"):
            self.assert_refused(desk, row, NoRow)

    def test_a_name_without_signs_is_that_of_no_part(self):
        desk = new_desk()
        for what in ("hide", "show", "raise", "sink", "take"):
            self.assert_refused(desk, what + " ", NoName)


class RowsSaidTest(DeskCase):
    def test_some_rows(self):
        for seed in range(17000, 17025):
            chance = Random(seed)
            rows, floor = some_scene(chance), some_floor(chance)
            desk = Desk()
            head = "scene " + str(floor[0]) + " " + str(floor[1]) + " " + "/".join(str(n) for n in floor[2])
            self.assertEqual(desk.say(head + "\n" + scene_shown(rows)), "ok")
            films = 1
            for number in range(15):
                deed = some_deed(chance, rows, number)
                if deed[0] == "change":
                    continue
                try:
                    behind = deed_done(rows, deed)
                except SceneError as refusal:
                    self.assert_refused(desk, row_of_deed(deed), type(refusal))
                    continue
                blocks = changed_blocks(picture_of(rows, floor), picture_of(behind, floor))
                self.assertEqual(desk.say(row_of_deed(deed)), boxes_due(blocks))
                films += 1
                rows = behind
                self.assert_stands(desk, rows, floor, films)
                x, y = chance.randint(-1, 8), chance.randint(-1, 6)
                self.assertEqual(desk.say("under " + str(x) + " " + str(y)), " ".join(parts_under(rows, x, y)))


if __name__ == "__main__":
    unittest.main()
