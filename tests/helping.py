"""What several test files need: fractions as numbers, sheets as dicts, and forms that are checked."""

from fractions import Fraction

SHARES = ((0, 1), (1, 1), (1, 2), (1, 3), (2, 3), (3, 4), (1, 7), (999, 1000), (1, 1000), (500, 997))
COVERS = SHARES[1:]


def as_told(number):
    return (number.numerator, number.denominator)


def as_number(told):
    return Fraction(told[0], told[1])


def numbers_of(sheet):
    """A sheet as a dict from cells to (ink, cover) as numbers."""
    return {(x, y): (as_number(ink), as_number(cover)) for x, y, ink, cover in sheet}


def sheet_told(numbers):
    """A dict from cells to (ink, cover) as numbers, as the sheet that the program tells."""
    return [
        (x, y, as_told(numbers[(x, y)][0]), as_told(numbers[(x, y)][1]))
        for x, y in sorted(numbers, key=lambda cell: (cell[1], cell[0]))
    ]


def over(one, other):
    """One spot over another one, as numbers; None is no spot."""
    if one is None or other is None:
        return other if one is None else one
    return (one[0] + other[0] * (1 - one[1]), one[1] + other[1] * (1 - one[1]))


def is_told_fraction(thing):
    if type(thing) is not tuple or [type(part) for part in thing] != [int, int]:
        return False
    return thing[1] >= 1 and as_told(as_number(thing)) == thing


def check_sheet(case, sheet):
    """The form of a sheet: row by row, each cell once, each spot with a cover above 0."""
    case.assertIs(type(sheet), list)
    for thing in sheet:
        case.assertIs(type(thing), tuple)
        case.assertEqual([type(part) for part in thing], [int, int, tuple, tuple])
        case.assertTrue(is_told_fraction(thing[2]) and is_told_fraction(thing[3]))
        case.assertTrue(0 <= as_number(thing[2]) <= as_number(thing[3]) <= 1)
        case.assertGreater(as_number(thing[3]), 0)
    order = [(thing[1], thing[0]) for thing in sheet]
    case.assertEqual(order, sorted(set(order)))


def some_sheet(chance, low=-3, high=4, many=20):
    """A sheet with spots at some of the cells from low to below high."""
    numbers = {}
    for count in range(chance.randrange(many + 1)):
        cell = (chance.randrange(low, high), chance.randrange(low, high))
        cover = as_number(chance.choice(COVERS))
        numbers[cell] = (cover * as_number(chance.choice(SHARES)), cover)
    return sheet_told(numbers)
