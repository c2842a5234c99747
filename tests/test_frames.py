import copy
import unittest
from random import Random

from helping import HALF, NONE, ONE, SHARES
from scenemend.cells import stretches_of
from scenemend.errors import Unlike
from scenemend.frames import frame_back, frame_between, frame_played, frames_joined

DARK = [[NONE, NONE, NONE], [NONE, NONE, NONE]]
LIGHT = [[NONE, ONE, HALF], [ONE, NONE, ONE]]
FRAME = [(1, 0, [NONE, NONE], [ONE, HALF]), (0, 1, [NONE], [ONE]), (2, 1, [NONE], [ONE])]


def some_picture(chance, wide, high, shades=SHARES[:4]):
    return [[chance.choice(shades) for x in range(wide)] for y in range(high)]


def some_size(chance):
    return chance.randint(1, 7), chance.randint(1, 5)


def mixed(chance, one, other):
    return [[chance.choice(pair) for pair in zip(*rows)] for rows in zip(one, other)]


class BetweenTest(unittest.TestCase):
    def test_written_out(self):
        self.assertEqual(frame_between(DARK, LIGHT), FRAME)

    def test_of_no_change(self):
        for picture in ([[ONE]], DARK, LIGHT):
            self.assertEqual(frame_between(picture, copy.deepcopy(picture)), [])

    def test_some_pictures(self):
        chance = Random(1)
        for count in range(200):
            wide, high = some_size(chance)
            one, other = some_picture(chance, wide, high), some_picture(chance, wide, high)
            unlike = [(x, y) for y in range(high) for x in range(wide) if one[y][x] != other[y][x]]
            due = [(x, y, one[y][x:x + many], other[y][x:x + many]) for x, y, many in stretches_of(unlike)]
            told = frame_between(one, other)
            self.assertEqual(told, due)
            self.assertIs(type(told), list)
            for thing in told:
                self.assertEqual([type(part) for part in thing], [int, int, list, list])


class PlayedTest(unittest.TestCase):
    def assert_unlike(self, frame, picture):
        kept = copy.deepcopy((frame, picture))
        with self.assertRaises(Unlike):
            frame_played(frame, picture)
        self.assertEqual((frame, picture), kept)

    def test_leads_from_the_one_to_the_other(self):
        self.assertEqual(frame_played(FRAME, DARK), LIGHT)
        self.assertEqual(frame_played([], LIGHT), LIGHT)

    def test_on_any_picture_that_has_the_olds(self):
        picture = [[HALF, NONE, NONE, ONE], [NONE, (1, 7), NONE, ONE], [ONE, ONE, ONE, ONE]]
        due = [[HALF, ONE, HALF, ONE], [ONE, (1, 7), ONE, ONE], [ONE, ONE, ONE, ONE]]
        self.assertEqual(frame_played(FRAME, picture), due)

    def test_another_shade_at_one_of_the_cells(self):
        for x, y in ((1, 0), (2, 0), (0, 1), (2, 1)):
            picture = copy.deepcopy(DARK)
            picture[y][x] = (1, 1000)
            self.assert_unlike(FRAME, picture)
        for x, y in ((0, 0), (1, 1)):
            picture = copy.deepcopy(DARK)
            picture[y][x] = (1, 1000)
            self.assertEqual(frame_played(FRAME, picture)[y][x], (1, 1000))

    def test_on_the_picture_it_leads_to(self):
        self.assert_unlike(FRAME, LIGHT)

    def test_a_picture_that_lacks_one_of_the_cells(self):
        self.assert_unlike(FRAME, DARK[:1])
        self.assert_unlike(FRAME, [row[:2] for row in DARK])
        self.assert_unlike(FRAME, [[NONE]])
        self.assert_unlike([(0, 5, [NONE], [ONE])], DARK)
        self.assert_unlike([(5, 0, [NONE], [ONE])], DARK)
        self.assert_unlike([(2, 0, [NONE, NONE], [ONE, ONE])], DARK)

    def test_cells_below_nought(self):
        for x, y in ((-1, 0), (0, -1), (-1, -1), (-3, 0), (0, -2), (-2, 1)):
            self.assert_unlike([(x, y, [NONE], [ONE])], DARK)
            self.assert_unlike([(x, y, [NONE, NONE], [ONE, ONE])], DARK)


class BackTest(unittest.TestCase):
    def test_olds_and_news_are_exchanged(self):
        due = [(1, 0, [ONE, HALF], [NONE, NONE]), (0, 1, [ONE], [NONE]), (2, 1, [ONE], [NONE])]
        self.assertEqual(frame_back(FRAME), due)
        self.assertEqual(frame_back([]), [])

    def test_some_pictures(self):
        chance = Random(2)
        for count in range(150):
            wide, high = some_size(chance)
            one, other = some_picture(chance, wide, high), some_picture(chance, wide, high)
            frame = frame_between(one, other)
            self.assertEqual(frame_played(frame, one), other)
            self.assertEqual(frame_back(frame), frame_between(other, one))
            self.assertEqual(frame_played(frame_back(frame), other), one)
            self.assertEqual(frame_back(frame_back(frame)), frame)


class JoinedTest(unittest.TestCase):
    def test_with_none(self):
        self.assertEqual(frames_joined([], []), [])
        self.assertEqual(frames_joined(FRAME, []), FRAME)
        self.assertEqual(frames_joined([], FRAME), FRAME)

    def test_there_and_back_is_no_change(self):
        self.assertEqual(frames_joined(FRAME, frame_back(FRAME)), [])

    def test_a_cell_that_comes_to_be_as_it_was_parts_a_stretch(self):
        one = [[NONE, NONE, NONE]]
        between = [[ONE, ONE, ONE]]
        other = [[HALF, NONE, ONE]]
        told = frames_joined(frame_between(one, between), frame_between(between, other))
        self.assertEqual(told, [(0, 0, [NONE], [HALF]), (2, 0, [NONE], [ONE])])

    def test_stretches_beside_one_another_are_one(self):
        first = frame_between([[NONE, NONE, NONE]], [[NONE, ONE, NONE]])
        second = frame_between([[NONE, ONE, NONE]], [[HALF, ONE, HALF]])
        self.assertEqual(frames_joined(first, second), [(0, 0, [NONE] * 3, [HALF, ONE, HALF])])

    def test_some_pictures(self):
        chance = Random(3)
        for count in range(300):
            wide, high = some_size(chance)
            one, other = some_picture(chance, wide, high), some_picture(chance, wide, high)
            other = mixed(chance, one, other)
            third = mixed(chance, mixed(chance, one, other), some_picture(chance, wide, high))
            told = frames_joined(frame_between(one, other), frame_between(other, third))
            self.assertEqual(told, frame_between(one, third))


class ListsTest(unittest.TestCase):
    def assert_own(self, ask, handed):
        kept = copy.deepcopy(handed)
        due = copy.deepcopy(ask())
        told = ask()
        for thing in told:
            if isinstance(thing, tuple):
                thing[2].append("x")
                thing[3].append("x")
            else:
                thing.append("x")
        told.append("x")
        self.assertEqual(handed, kept)
        self.assertEqual(ask(), due)

    def test_nothing_handed_in_is_changed_and_all_told_is_new(self):
        dark, light, frame = copy.deepcopy((DARK, LIGHT, FRAME))
        handed = [dark, light, frame]
        self.assert_own(lambda: frame_between(dark, light), handed)
        self.assert_own(lambda: frame_played(frame, dark), handed)
        self.assert_own(lambda: frame_played([], dark), handed)
        self.assert_own(lambda: frame_back(frame), handed)
        self.assert_own(lambda: frames_joined(frame, []), handed)
        self.assert_own(lambda: frames_joined([], frame), handed)

    def test_lists_changed_behind_change_no_answer(self):
        dark, light, frame = copy.deepcopy((DARK, LIGHT, FRAME))
        told = [frame_between(dark, light), frame_back(frame), frames_joined(frame, []), frame_played([], dark)]
        due = copy.deepcopy(told)
        for thing in frame:
            thing[2].clear()
            thing[3].clear()
        for row in dark + light:
            row.clear()
        self.assertEqual(told, due)


if __name__ == "__main__":
    unittest.main()
