import unittest
from fractions import Fraction

from scenemend import errors
from scenemend.errors import NoShare, SceneError
from scenemend.fractions import fraction, is_share, less, minus, plus, times

BIG = 10 ** 59 + 7
SMALL_NUMBERS = tuple(range(-13, 14))
NUMBERS = (
    -BIG * 6, -BIG, -12, -6, -1, 0, 1, 4, 6, 9, 12, 35,
    BIG - 1, BIG, BIG * 6, BIG * 35, 2 ** 200, 3 ** 126,
)


def as_told(number):
    return (number.numerator, number.denominator)


def some_fractions():
    numbers = set()
    for top in NUMBERS:
        for bottom in (1, 2, 3, 12, -35, BIG, BIG * 6, 2 ** 200):
            numbers.add(Fraction(top, bottom))
    return sorted(numbers)


class FractionCase(unittest.TestCase):
    def assert_fraction(self, told, number):
        self.assertEqual(told, as_told(number))
        self.assertIs(type(told), tuple)
        self.assertEqual([type(part) for part in told], [int, int])


class MakingTest(FractionCase):
    def test_small_numbers_of_either_sign(self):
        for top in SMALL_NUMBERS:
            for bottom in SMALL_NUMBERS:
                if bottom != 0:
                    with self.subTest(top=top, bottom=bottom):
                        self.assert_fraction(fraction(top, bottom), Fraction(top, bottom))

    def test_great_numbers_with_common_divisors(self):
        for top in NUMBERS:
            for bottom in NUMBERS:
                if bottom != 0:
                    with self.subTest(top=top, bottom=bottom):
                        self.assert_fraction(fraction(top, bottom), Fraction(top, bottom))

    def test_three_hundred_figures(self):
        top = 10 ** 299 + 1
        self.assertEqual(fraction(top * -1, top - 1), (-top, top - 1))
        self.assertEqual(fraction(10 ** 299, -(5 ** 299)), (-(2 ** 299), 1))

    def test_written_out(self):
        self.assertEqual(fraction(6, 4), (3, 2))
        self.assertEqual(fraction(6, -4), (-3, 2))
        self.assertEqual(fraction(-6, 4), (-3, 2))
        self.assertEqual(fraction(-6, -4), (3, 2))
        self.assertEqual(fraction(7, 1), (7, 1))

    def test_nought_is_nought_over_one(self):
        for bottom in (1, -1, 2, -7, BIG, -BIG):
            with self.subTest(bottom=bottom):
                self.assertEqual(fraction(0, bottom), (0, 1))


class NoShareTest(unittest.TestCase):
    def test_bottom_of_nought_is_refused(self):
        for top in (-BIG, -1, 0, 1, BIG):
            for taker in (NoShare, SceneError, ValueError):
                with self.subTest(top=top, taker=taker):
                    with self.assertRaises(taker):
                        fraction(top, 0)

    def test_refusal_is_no_other_one(self):
        others = (
            errors.NoPart, errors.Twice, errors.NoHolder, errors.TooDeep,
            errors.Nested, errors.TooMany, errors.NoName, errors.WrongKind,
            errors.Unlike, errors.NoStep, errors.NoText, errors.NoRow,
        )
        with self.assertRaises(NoShare) as caught:
            fraction(1, 0)
        self.assertIs(type(caught.exception), NoShare)
        self.assertNotIsInstance(caught.exception, others)


class ReckoningTest(FractionCase):
    def test_plus_minus_times_are_in_lowest_terms(self):
        numbers = some_fractions()
        for one in numbers:
            for other in numbers:
                self.assert_fraction(plus(as_told(one), as_told(other)), one + other)
                self.assert_fraction(minus(as_told(one), as_told(other)), one - other)
                self.assert_fraction(times(as_told(one), as_told(other)), one * other)

    def test_written_out(self):
        self.assertEqual(plus((1, 6), (1, 3)), (1, 2))
        self.assertEqual(minus((1, 6), (1, 2)), (-1, 3))
        self.assertEqual(minus((1, 2), (1, 2)), (0, 1))
        self.assertEqual(times((2, 3), (3, 4)), (1, 2))
        self.assertEqual(times((-2, 3), (0, 1)), (0, 1))


class LessTest(unittest.TestCase):
    def test_both_ways_round_and_alike(self):
        numbers = some_fractions()
        for one in numbers:
            for other in numbers:
                self.assertIs(less(as_told(one), as_told(other)), one < other)

    def test_a_hair_apart(self):
        lower = fraction(BIG - 1, BIG)
        upper = fraction(BIG, BIG + 1)
        self.assertIs(less(lower, upper), True)
        self.assertIs(less(upper, lower), False)
        self.assertIs(less(lower, lower), False)

    def test_below_nought(self):
        self.assertIs(less((-1, 2), (-1, 3)), True)
        self.assertIs(less((-1, 3), (-1, 2)), False)
        self.assertIs(less((-1, 2), (0, 1)), True)


class IsShareTest(unittest.TestCase):
    def test_shares(self):
        for thing in ((0, 1), (1, 1), (1, 2), (999, 1000), (1000, 1001), (1, BIG), (BIG - 1, BIG)):
            with self.subTest(thing=thing):
                self.assertIs(is_share(thing), True)

    def test_fractions_that_are_no_shares(self):
        for thing in ((2, 1), (3, 2), (BIG + 1, BIG), (-1, 2), (-1, 1), (-1, BIG)):
            with self.subTest(thing=thing):
                self.assertIs(is_share(thing), False)

    def test_not_in_lowest_terms(self):
        for thing in ((2, 4), (0, 2), (3, 3), (BIG, BIG), (BIG, 2 * BIG)):
            with self.subTest(thing=thing):
                self.assertIs(is_share(thing), False)

    def test_bottom_of_nought_or_below(self):
        for thing in ((0, 0), (1, 0), (-1, 0), (0, -1), (-1, -2), (1, -2), (-1, -1)):
            with self.subTest(thing=thing):
                self.assertIs(is_share(thing), False)

    def test_tuples_of_one_or_three_things(self):
        for thing in ((), (0,), (1,), (1, 2, 3), (0, 1, 1), (1, 2, None)):
            with self.subTest(thing=thing):
                self.assertIs(is_share(thing), False)

    def test_tuples_of_other_things(self):
        things = (
            (True, 1), (False, 1), (1, True), (0, True), (True, True), (False, True), (True, 2),
            (None, 1), (0, None), (None, None), ("0", "1"), ("0", 1), (0, "1"), ("", ""),
            ((0, 1), 1), (0, (1,)), ((0, 1), (1, 1)), ([0], [1]), (0, [1]), ((0, 1),),
        )
        for thing in things:
            with self.subTest(thing=thing):
                self.assertIs(is_share(thing), False)

    def test_lists(self):
        for thing in ([], [0], [0, 1], [1, 2], [1, 1, 1], [(0, 1)], [[0, 1]], [None, True], ["0/1", ""]):
            with self.subTest(thing=thing):
                self.assertIs(is_share(thing), False)

    def test_single_things(self):
        for thing in (0, 1, -1, 2, BIG, True, False, None, "", "0", "1/2", "01", "(0, 1)"):
            with self.subTest(thing=thing):
                self.assertIs(is_share(thing), False)

    def test_list_handed_in_stays(self):
        thing = [0, [1, (2, 3)]]
        is_share(thing)
        self.assertEqual(thing, [0, [1, (2, 3)]])


if __name__ == "__main__":
    unittest.main()
