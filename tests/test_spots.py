import unittest
from fractions import Fraction

from scenemend.fractions import is_share
from scenemend.spots import spot_over

NONE = ((0, 1), (0, 1))


def as_told(number):
    return (number.numerator, number.denominator)


def some_spots():
    spots = []
    for cover in (Fraction(1), Fraction(1, 2), Fraction(2, 3), Fraction(1, 1000), Fraction(997, 1000)):
        for shade in (Fraction(0), Fraction(1), Fraction(1, 3), Fraction(5, 6)):
            spots.append((as_told(cover * shade), as_told(cover)))
    return spots


SPOTS = some_spots()


class SpotOverTest(unittest.TestCase):
    def test_cover_one_hides_what_lies_beneath(self):
        for other in SPOTS:
            self.assertEqual(spot_over(((1, 3), (1, 1)), other), ((1, 3), (1, 1)))
            self.assertEqual(spot_over(((0, 1), (1, 1)), other), ((0, 1), (1, 1)))

    def test_cover_less_than_one(self):
        self.assertEqual(spot_over(((1, 4), (1, 2)), ((2, 3), (1, 1))), ((7, 12), (1, 1)))
        self.assertEqual(spot_over(((1, 4), (1, 2)), ((1, 3), (1, 3))), ((5, 12), (2, 3)))
        self.assertEqual(spot_over(((0, 1), (3, 4)), ((1, 2), (1, 2))), ((1, 8), (7, 8)))

    def test_the_order_of_two_matters(self):
        self.assertEqual(spot_over(((1, 2), (1, 2)), ((0, 1), (1, 2))), ((1, 2), (3, 4)))
        self.assertEqual(spot_over(((0, 1), (1, 2)), ((1, 2), (1, 2))), ((1, 4), (3, 4)))

    def test_as_numbers_tell(self):
        for one in SPOTS:
            for other in SPOTS:
                through = 1 - Fraction(*one[1])
                ink = Fraction(*one[0]) + Fraction(*other[0]) * through
                cover = Fraction(*one[1]) + Fraction(*other[1]) * through
                self.assertEqual(spot_over(one, other), (as_told(ink), as_told(cover)))

    def test_what_comes_of_it_is_a_spot(self):
        for one in SPOTS:
            for other in SPOTS:
                told = spot_over(one, other)
                self.assertIs(type(told), tuple)
                self.assertEqual(len(told), 2)
                self.assertTrue(is_share(told[0]) and is_share(told[1]))
                self.assertLessEqual(Fraction(*told[0]), Fraction(*told[1]))

    def test_three_are_the_same_whichever_two_are_laid_first(self):
        for one in SPOTS:
            for other in SPOTS:
                for third in SPOTS:
                    self.assertEqual(
                        spot_over(spot_over(one, other), third),
                        spot_over(one, spot_over(other, third)),
                    )

    def test_over_none_or_beneath_none_it_stays(self):
        for spot in SPOTS:
            self.assertEqual(spot_over(spot, NONE), spot)
            self.assertEqual(spot_over(NONE, spot), spot)


if __name__ == "__main__":
    unittest.main()
