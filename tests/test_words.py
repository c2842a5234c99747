import unittest

from helping import SHARES, as_number, as_told, check_sheet
from scenemend.words import sign_cells, word_has, word_sheet

ONE = (1, 1)
HALF = (1, 2)
NONE = (0, 1)
# The fields of the font, drawn row by row.
FIELDS = {
    "0": ("###", "#.#", "#.#", "#.#", "###"),
    "1": ("..#", "..#", "..#", "..#", "..#"),
    "2": ("###", "..#", "###", "#..", "###"),
    "3": ("###", "..#", "###", "..#", "###"),
    "4": ("#.#", "#.#", "###", "..#", "..#"),
    "5": ("###", "#..", "###", "..#", "###"),
    "6": ("###", "#..", "###", "#.#", "###"),
    "7": ("###", "..#", "..#", "..#", "..#"),
    "8": ("###", "#.#", "###", "#.#", "###"),
    "9": ("###", "#.#", "###", "..#", "###"),
    "a": ("###", "#.#", "###", "#.#", "#.#"),
    "b": ("#..", "#..", "###", "#.#", "###"),
    "c": ("###", "#..", "#..", "#..", "###"),
    "d": ("..#", "..#", "###", "#.#", "###"),
    "e": ("###", "#..", "###", "#..", "###"),
    "f": ("###", "#..", "###", "#..", "#.."),
    "-": ("...", "...", "###", "...", "..."),
    "_": ("...", "...", "...", "...", "..."),
}


def field_due(sign):
    return [(x, y) for y, row in enumerate(FIELDS[sign]) for x, dot in enumerate(row) if dot == "#"]


def word_due(text, shade, share):
    ink = as_told(as_number(shade) * as_number(share))
    cells = [(x + 4 * place, y) for place, sign in enumerate(text) for x, y in field_due(sign)]
    return [(x, y, ink, share) for x, y in sorted(cells, key=lambda cell: (cell[1], cell[0]))]


class SignCellsTest(unittest.TestCase):
    def test_each_sign(self):
        self.assertEqual(len(FIELDS), 18)
        for sign in FIELDS:
            with self.subTest(sign=sign):
                told = sign_cells(sign)
                self.assertEqual(told, field_due(sign))
                self.assertIs(type(told), list)
                self.assertEqual({type(cell) for cell in told} - {tuple}, set())

    def test_told_lists_are_the_askers_own(self):
        for sign in FIELDS:
            told = sign_cells(sign)
            told.append((9, 9))
            told[0] = (8, 8)
            self.assertEqual(sign_cells(sign), field_due(sign))


class WordSheetTest(unittest.TestCase):
    def test_without_signs(self):
        self.assertEqual(word_sheet("", ONE, ONE), [])

    def test_share_nought(self):
        self.assertEqual(word_sheet("0123", ONE, NONE), [])

    def test_written_out(self):
        self.assertEqual(
            word_sheet("1-", HALF, HALF),
            [
                (2, 0, (1, 4), HALF), (2, 1, (1, 4), HALF), (2, 2, (1, 4), HALF), (4, 2, (1, 4), HALF),
                (5, 2, (1, 4), HALF), (6, 2, (1, 4), HALF), (2, 3, (1, 4), HALF), (2, 4, (1, 4), HALF),
            ],
        )

    def test_each_sign_at_each_place(self):
        for sign in FIELDS:
            for place in range(8):
                text = "_" * place + sign
                told = word_sheet(text, (1, 3), ONE)
                check_sheet(self, told)
                self.assertEqual(told, word_due(text, (1, 3), ONE))

    def test_words_and_shares(self):
        for text in ("012345", "6789ab", "cdef-_", "__--__", "8", "88888888", "f0f0"):
            for share in SHARES[1:]:
                told = word_sheet(text, (2, 3), share)
                check_sheet(self, told)
                self.assertEqual(told, word_due(text, (2, 3), share))

    def test_told_lists_are_the_askers_own(self):
        for text, share in (("", ONE), ("a1", HALF), ("a1", NONE)):
            told = word_sheet(text, ONE, share)
            told.append((9, 9, ONE, ONE))
            told[0] = (8, 8, ONE, ONE)
            self.assertEqual(word_sheet(text, ONE, share), [] if share == NONE else word_due(text, ONE, share))


class WordHasTest(unittest.TestCase):
    def test_just_the_cells_of_its_sheet(self):
        for text in ("", "_", "0a-", "123456", "-_8"):
            cells = [(x, y) for x, y, ink, cover in word_sheet(text, ONE, ONE)]
            for x in range(-9, 33):
                for y in range(-3, 9):
                    self.assertIs(word_has(text, x, y), (x, y) in cells)


if __name__ == "__main__":
    unittest.main()
