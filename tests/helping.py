"""What several test files need: fractions as numbers, sheets as dicts, and forms that are checked."""

from fractions import Fraction

SHARES = ((0, 1), (1, 1), (1, 2), (1, 3), (2, 3), (3, 4), (1, 7), (999, 1000), (1, 1000), (500, 997))
COVERS = SHARES[1:]


def as_told(number):
    return (number.numerator, number.denominator)


def as_number(told):
    return Fraction(told[0], told[1])


def numbers_of(sheet):
    """A sheet as a dict from cells to (ink, cover) as numbers."""
    return {(x, y): (as_number(ink), as_number(cover)) for x, y, ink, cover in sheet}


def sheet_told(numbers):
    """A dict from cells to (ink, cover) as numbers, as the sheet that the program tells."""
    return [
        (x, y, as_told(numbers[(x, y)][0]), as_told(numbers[(x, y)][1]))
        for x, y in sorted(numbers, key=lambda cell: (cell[1], cell[0]))
    ]


def over(one, other):
    """One spot over another one, as numbers; None is no spot."""
    if one is None or other is None:
        return other if one is None else one
    return (one[0] + other[0] * (1 - one[1]), one[1] + other[1] * (1 - one[1]))


def is_told_fraction(thing):
    if type(thing) is not tuple or [type(part) for part in thing] != [int, int]:
        return False
    return thing[1] >= 1 and as_told(as_number(thing)) == thing


def check_sheet(case, sheet):
    """The form of a sheet: row by row, each cell once, each spot with a cover above 0."""
    case.assertIs(type(sheet), list)
    for thing in sheet:
        case.assertIs(type(thing), tuple)
        case.assertEqual([type(part) for part in thing], [int, int, tuple, tuple])
        case.assertTrue(is_told_fraction(thing[2]) and is_told_fraction(thing[3]))
        case.assertTrue(0 <= as_number(thing[2]) <= as_number(thing[3]) <= 1)
        case.assertGreater(as_number(thing[3]), 0)
    order = [(thing[1], thing[0]) for thing in sheet]
    case.assertEqual(order, sorted(set(order)))


def some_sheet(chance, low=-3, high=4, many=20):
    """A sheet with spots at some of the cells from low to below high."""
    numbers = {}
    for count in range(chance.randrange(many + 1)):
        cell = (chance.randrange(low, high), chance.randrange(low, high))
        cover = as_number(chance.choice(COVERS))
        numbers[cell] = (cover * as_number(chance.choice(SHARES)), cover)
    return sheet_told(numbers)


# Scenes

ONE = (1, 1)
HALF = (1, 2)
NONE = (0, 1)
LEAVES = ("plate", "band", "word", "stencil")
HOLDERS = ("group", "glass", "window", "turn", "tiles", "mask")


def part(name, kind, *data, holder="", x=0, y=0, shown=True):
    return (name, holder, x, y, shown, kind, data)


def plate(name, w=1, h=1, shade=ONE, share=ONE, **told):
    return part(name, "plate", w, h, shade, share, **told)


def some_share(chance):
    return chance.choice(SHARES + (ONE, ONE, HALF))


def some_data(chance, kind):
    """Small data of a kind, so that parts meet often on a small floor."""
    if kind == "plate":
        return (chance.randint(1, 4), chance.randint(1, 4), some_share(chance), some_share(chance))
    if kind == "band":
        return (chance.randint(-4, 4), chance.randint(-4, 4), some_share(chance), some_share(chance))
    if kind == "word":
        text = "".join(chance.choice("0123456789abcdef-_") for count in range(chance.randint(0, 2)))
        return (text, some_share(chance), some_share(chance))
    if kind == "stencil":
        wide = chance.randint(1, 4)
        rows = tuple("".join(chance.choice("##.") for x in range(wide)) for y in range(chance.randint(1, 4)))
        return (rows, some_share(chance), some_share(chance))
    if kind == "glass":
        return (some_share(chance),)
    if kind == "window":
        return (chance.randint(1, 7), chance.randint(1, 6), chance.randint(-2, 3), chance.randint(-2, 3))
    if kind == "turn":
        return (chance.randint(0, 3), chance.random() < 0.5)
    if kind == "tiles":
        return (chance.randint(1, 3), chance.randint(1, 3), chance.randint(-3, 4), chance.randint(-3, 4))
    return ()


def some_row(chance, rows, name, kinds=LEAVES + HOLDERS):
    """A row that may come behind the rows of a scene, but for depth and tiles in tiles."""
    holders = [row[0] for row in rows if row[5] in HOLDERS]
    holder = chance.choice(holders) if holders and chance.random() < 0.75 else ""
    kind = chance.choice(kinds)
    place = (chance.randint(-2, 5), chance.randint(-2, 4))
    return (name, holder) + place + (chance.random() < 0.9, kind, some_data(chance, kind))


def is_fit(rows, row):
    kinds = [other[5] for other in rows if other[0] in above(rows, row[1])]
    return len(kinds) <= 6 and not (row[5] == "tiles" and "tiles" in kinds)


def above(rows, name):
    """A part's name and those of all its holders; none for the floor."""
    names = []
    while name != "":
        names.append(name)
        name = [row for row in rows if row[0] == name][0][1]
    return names


def some_scene(chance, many=12):
    rows = []
    for count in range(chance.randint(0, many)):
        kinds = HOLDERS if count < 2 else LEAVES + LEAVES + HOLDERS
        row = some_row(chance, rows, "p" + str(count), kinds)
        if is_fit(rows, row):
            rows.append(row)
    return rows


def some_floor(chance):
    return (chance.randint(1, 9), chance.randint(1, 7), chance.choice(SHARES))
