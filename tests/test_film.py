import copy
import unittest
from random import Random

from helping import HALF, NONE, ONE, SHARES
from scenemend.errors import NoStep, Unlike
from scenemend.film import Film
from scenemend.frames import frame_back, frame_between, frame_played

FIRST = [[NONE, ONE], [HALF, NONE]]
SECOND = [[NONE, ONE], [ONE, ONE]]
THIRD = [[HALF, ONE], [ONE, ONE]]


def some_pictures(chance, many):
    wide, high = chance.randint(1, 6), chance.randint(1, 5)
    return [[[chance.choice(SHARES[:3]) for x in range(wide)] for y in range(high)] for count in range(many)]


class FilmCase(unittest.TestCase):
    def assert_film(self, film, pictures):
        self.assertEqual(film.count(), len(pictures))
        for number, picture in enumerate(pictures):
            self.assertEqual(film.at(number), picture)
        self.assertEqual(film.frames(), [frame_between(one, other) for one, other in zip(pictures, pictures[1:])])
        for number in (-1, -2, -len(pictures), len(pictures), len(pictures) + 1, 10 ** 299, -(10 ** 299)):
            with self.assertRaises(NoStep):
                film.at(number)


class FilmTest(FilmCase):
    def test_begun_with_a_picture(self):
        self.assert_film(Film(FIRST), [FIRST])

    def test_further_pictures(self):
        film = Film(FIRST)
        self.assertIsNone(film.add(SECOND))
        self.assert_film(film, [FIRST, SECOND])
        self.assertIsNone(film.add(THIRD))
        self.assert_film(film, [FIRST, SECOND, THIRD])
        self.assertEqual(film.frames(), [[(0, 1, [HALF, NONE], [ONE, ONE])], [(0, 0, [NONE], [HALF])]])

    def test_a_picture_of_no_change(self):
        film = Film(FIRST)
        film.add(FIRST)
        self.assert_film(film, [FIRST, FIRST])
        self.assertEqual(film.frames(), [[]])

    def test_a_picture_of_another_size(self):
        film = Film(FIRST)
        film.add(SECOND)
        for picture in ([[NONE]], [[NONE, ONE]], [[NONE], [ONE]], FIRST + [[NONE, NONE]], [row + [ONE] for row in FIRST]):
            kept = copy.deepcopy(picture)
            with self.assertRaises(Unlike):
                film.add(picture)
            self.assertEqual(picture, kept)
            self.assert_film(film, [FIRST, SECOND])
        film.add(THIRD)
        self.assert_film(film, [FIRST, SECOND, THIRD])

    def test_some_films_played_and_played_back(self):
        for seed in range(60):
            chance = Random(seed)
            pictures = some_pictures(chance, chance.randint(1, 12))
            film = Film(pictures[0])
            for picture in pictures[1:]:
                film.add(picture)
            self.assert_film(film, pictures)
            played = pictures[0]
            for frame in film.frames():
                played = frame_played(frame, played)
            self.assertEqual(played, pictures[-1])
            for frame in reversed(film.frames()):
                played = frame_played(frame_back(frame), played)
            self.assertEqual(played, pictures[0])

    def test_two_films_beside_one_another(self):
        one, other = Film(FIRST), Film(FIRST)
        one.add(SECOND)
        self.assert_film(other, [FIRST])
        other.add(THIRD)
        self.assert_film(one, [FIRST, SECOND])
        self.assert_film(other, [FIRST, THIRD])


class ListsTest(FilmCase):
    def test_lists_handed_in_stay_and_may_be_changed_behind(self):
        first, second, third = copy.deepcopy((FIRST, SECOND, THIRD))
        film = Film(first)
        first[0][0] = "x"
        film.add(second)
        second[1].clear()
        film.add(third)
        self.assertEqual(third, THIRD)
        third.clear()
        self.assert_film(film, [FIRST, SECOND, THIRD])

    def test_told_lists_are_the_askers_own(self):
        film = Film(FIRST)
        film.add(SECOND)
        for number in (0, 1):
            told = film.at(number)
            told[0][0] = "x"
            told[1].clear()
            told.clear()
        told = film.frames()
        told[0][0][2].clear()
        told[0][0][3].append("x")
        told[0].clear()
        told.clear()
        self.assert_film(film, [FIRST, SECOND])
        film.add(THIRD)
        self.assert_film(film, [FIRST, SECOND, THIRD])


if __name__ == "__main__":
    unittest.main()
