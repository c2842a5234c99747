import copy
import unittest
from random import Random

from helping import HALF, HOLDERS, LEAVES, NONE, ONE, part, picture_due, plate, some_data, some_floor, some_scene
from scenemend.drawing import picture_of
from scenemend.errors import NoText
from scenemend.notes import picture_shown, scene_read, scene_shown
from scenemend.rows import is_row

# One row of each kind, and the words that write it.
WRITTEN = {
    "plate a . 0 0 on 3 12 1/2 1/1": plate("a", 3, 12, HALF, ONE),
    "band b9 . -60 60 off -12 0 0/1 999/1000": part("b9", "band", -12, 0, NONE, (999, 1000), x=-60, y=60, shown=False),
    "word c g 1 -1 on 0a-_ 1/3 1/1": part("c", "word", "0a-_", (1, 3), ONE, holder="g", x=1, y=-1),
    "word c . 0 0 on . 1/3 0/1": part("c", "word", "", (1, 3), NONE),
    "word 12 34 0 0 on 56 1/3 0/1": part("12", "word", "56", (1, 3), NONE, holder="34"),
    "stencil d . 0 0 on #.:.# 1/1 1/2": part("d", "stencil", ("#.", ".#"), ONE, HALF),
    "stencil d . 0 0 on . 1/1 1/2": part("d", "stencil", (".",), ONE, HALF),
    "stencil d . 0 0 on .:. 1/1 1/2": part("d", "stencil", (".", "."), ONE, HALF),
    "group e . 0 0 off": part("e", "group", shown=False),
    "glass f . 0 0 on 2/3": part("f", "glass", (2, 3)),
    "window h . 0 0 on 16 1 -60 7": part("h", "window", 16, 1, -60, 7),
    "turn i . 0 0 on 3 flip": part("i", "turn", 3, True),
    "turn i . 0 0 on 0 flat": part("i", "turn", 0, False),
    "tiles j . 0 0 on 3 1 -20 20": part("j", "tiles", 3, 1, -20, 20),
    "mask abcdefgh zzzzzzzz 0 0 on": part("abcdefgh", "mask", holder="zzzzzzzz"),
}
# Words and signs that stand in for one another when a text is put off by a little.
SIGNS = " -+.:/#0129abgzAZ_~\n\t"


class WritingTest(unittest.TestCase):
    def test_each_kind(self):
        for text, row in WRITTEN.items():
            self.assertIs(is_row(row), True)
            self.assertEqual(scene_shown([row]), text)
            self.assertEqual(scene_read(text), [row])

    def test_without_rows(self):
        self.assertEqual(scene_shown([]), "")
        self.assertEqual(scene_read(""), [])

    def test_several_rows_whether_a_scene_or_not(self):
        rows = list(WRITTEN.values())
        text = "\n".join(WRITTEN)
        self.assertEqual(scene_shown(rows), text)
        self.assertEqual(scene_read(text), rows)
        many = [plate("a", holder="zz")] * 30
        self.assertEqual(scene_read(scene_shown(many)), many)

    def test_some_rows_there_and_back(self):
        for seed in range(300):
            chance = Random(seed)
            rows = some_scene(chance)
            kind = chance.choice(LEAVES + HOLDERS)
            rows.append(("x", "y", chance.randint(-60, 60), chance.randint(-60, 60), True, kind, some_data(chance, kind)))
            kept = copy.deepcopy(rows)
            text = scene_shown(rows)
            self.assertIs(type(text), str)
            self.assertEqual(scene_read(text), rows)
            self.assertEqual(scene_shown(scene_read(text)), text)
            self.assertEqual(rows, kept)

    def test_told_list_is_the_askers_own(self):
        text = "\n".join(WRITTEN)
        scene_read(text).clear()
        self.assertEqual(scene_read(text), list(WRITTEN.values()))
        scene_read("").append("x")
        self.assertEqual(scene_read(""), [])

    def test_kinds_of_what_is_read(self):
        for row in scene_read("\n".join(WRITTEN)):
            self.assertEqual([type(thing) for thing in row], [str, str, int, int, bool, str, tuple])


class NoTextTest(unittest.TestCase):
    def assert_refused(self, *texts):
        for text in texts:
            with self.assertRaises(NoText, msg=text):
                scene_read(text)

    def test_blanks(self):
        for text in WRITTEN:
            self.assert_refused(text + " ", " " + text, text.replace(" ", "  ", 1), text.replace(" ", "\t", 1))
            self.assert_refused(text + "\n", "\n" + text, text + "\n\n" + text, text.replace(" ", "\n", 1))
        self.assert_refused(" ", "\n", "\n\n", "\t")

    def test_words_too_few_or_too_many(self):
        for text in WRITTEN:
            words = text.split(" ")
            for place in range(len(words)):
                self.assert_refused(" ".join(words[:place] + words[place + 1:]))
                self.assert_refused(" ".join(words[:place] + [""] + words[place + 1:]))
            for more in ("0", "1/2", ".", "on", ""):
                self.assert_refused(text + " " + more)

    def test_numbers_written_otherwise(self):
        for number in ("00", "-0", "+1", "01", "-01", "1.0", "0x1", "1_0", "--1", "-", "", "one", "1-", " 1", "1e0", "61", "-61"):
            self.assert_refused("group e . " + number + " 0 on", "group e . 0 " + number + " on")
        for number in ("01", "+1", "-0", "0", "4", "1/1"):
            self.assert_refused("tiles j . 0 0 on " + number + " 1 0 0")
        self.assert_refused("group e . " + "9" * 300 + " 0 on", "group e . " + "9" * 5000 + " 0 on")

    def test_fractions_written_otherwise(self):
        for share in (
            "2/4", "0/2", "3/3", "1", "0", "1/", "/1", "/", "1/2/3", "01/2", "1/02", "+1/2", "-1/2", "1/-2", "-0/1", "0/-1",
            "3/2", "1/0", "0/0", "1/1001", "1000/1001", "0.5", ".5", "1:2", "1 /2", "half",
        ):
            self.assert_refused("glass f . 0 0 on " + share)

    def test_names_and_holders(self):
        for name in ("", ".", "A", "abcdefghi", "a_b", "a-b", "#"):
            self.assert_refused("group " + name + " . 0 0 on")
            if name != ".":
                self.assert_refused("group a " + name + " 0 0 on")

    def test_kinds_and_truths(self):
        self.assert_refused("grope e . 0 0 on", "Group e . 0 0 on", " . 0 0 on", "leaf")
        for shown in ("On", "of", "true", "True", "1", "0", "", "flip"):
            self.assert_refused("group e . 0 0 " + shown)
        for flipped in ("on", "True", "1", "0", "Flip", "flipped", ""):
            self.assert_refused("turn i . 0 0 on 0 " + flipped)

    def test_texts_and_stencil_rows(self):
        for text in ("g", "0123456", "..", "#", "A", ""):
            self.assert_refused("word c . 0 0 on " + text + " 1/1 1/1")
        for rows in ("", ":", "#:", ":#", "#::#", "##:#", "#########", ":".join("#" * 9), "#;#", "#,#", "x"):
            self.assert_refused("stencil d . 0 0 on " + rows + " 1/1 1/1")

    def test_one_row_that_is_off_among_others(self):
        for place in range(3):
            lines = ["group e . 0 0 on", "group f . 0 0 on", "group g . 0 0 on"]
            lines[place] = "group e . 0 0 no"
            self.assert_refused("\n".join(lines))

    def test_off_by_one_sign(self):
        # Whatever is read is just what writes the same text; all else is refused.
        refused = 0
        for text in WRITTEN:
            for place in range(len(text) + 1):
                others = [text[:place] + text[place + 1:]]
                others += [text[:place] + sign + text[place:] for sign in SIGNS]
                others += [text[:place] + sign + text[place + 1:] for sign in SIGNS]
                for other in others:
                    try:
                        rows = scene_read(other)
                    except NoText:
                        refused += 1
                    else:
                        self.assertTrue(all(is_row(row) for row in rows))
                        self.assertEqual(scene_shown(rows), other)
        self.assertGreater(refused, 5000)


class PictureTest(unittest.TestCase):
    def test_written_out(self):
        self.assertEqual(picture_shown([[NONE]]), "0/1")
        self.assertEqual(picture_shown([[NONE, HALF, ONE], [(999, 1000), ONE, NONE]]), "0/1 1/2 1/1\n999/1000 1/1 0/1")
        self.assertEqual(picture_shown([[ONE], [HALF]]), "1/1\n1/2")

    def test_some_pictures(self):
        for seed in range(40):
            chance = Random(seed)
            rows, floor = some_scene(chance), some_floor(chance)
            picture = picture_of(rows, floor)
            kept = copy.deepcopy(picture)
            due = "\n".join(" ".join("/".join(str(n) for n in shade) for shade in row) for row in picture_due(rows, floor))
            self.assertEqual(picture_shown(picture), due)
            self.assertEqual(picture, kept)


if __name__ == "__main__":
    unittest.main()
