"""What several test files need: fractions as numbers, sheets as dicts, and forms that are checked."""

from fractions import Fraction

from scenemend.bands import band_sheet
from scenemend.plain import plate_sheet, stencil_sheet
from scenemend.words import word_sheet

SHARES = ((0, 1), (1, 1), (1, 2), (1, 3), (2, 3), (3, 4), (1, 7), (999, 1000), (1, 1000), (500, 997))
COVERS = SHARES[1:]


def as_told(number):
    return (number.numerator, number.denominator)


def as_number(told):
    return Fraction(told[0], told[1])


def numbers_of(sheet):
    """A sheet as a dict from cells to (ink, cover) as numbers."""
    return {(x, y): (as_number(ink), as_number(cover)) for x, y, ink, cover in sheet}


def sheet_told(numbers):
    """A dict from cells to (ink, cover) as numbers, as the sheet that the program tells."""
    return [
        (x, y, as_told(numbers[(x, y)][0]), as_told(numbers[(x, y)][1]))
        for x, y in sorted(numbers, key=lambda cell: (cell[1], cell[0]))
    ]


def over(one, other):
    """One spot over another one, as numbers; None is no spot."""
    if one is None or other is None:
        return other if one is None else one
    return (one[0] + other[0] * (1 - one[1]), one[1] + other[1] * (1 - one[1]))


def is_told_fraction(thing):
    if type(thing) is not tuple or [type(part) for part in thing] != [int, int]:
        return False
    return thing[1] >= 1 and as_told(as_number(thing)) == thing


def check_sheet(case, sheet):
    """The form of a sheet: row by row, each cell once, each spot with a cover above 0."""
    case.assertIs(type(sheet), list)
    for thing in sheet:
        case.assertIs(type(thing), tuple)
        case.assertEqual([type(part) for part in thing], [int, int, tuple, tuple])
        case.assertTrue(is_told_fraction(thing[2]) and is_told_fraction(thing[3]))
        case.assertTrue(0 <= as_number(thing[2]) <= as_number(thing[3]) <= 1)
        case.assertGreater(as_number(thing[3]), 0)
    order = [(thing[1], thing[0]) for thing in sheet]
    case.assertEqual(order, sorted(set(order)))


def some_sheet(chance, low=-3, high=4, many=20):
    """A sheet with spots at some of the cells from low to below high."""
    numbers = {}
    for count in range(chance.randrange(many + 1)):
        cell = (chance.randrange(low, high), chance.randrange(low, high))
        cover = as_number(chance.choice(COVERS))
        numbers[cell] = (cover * as_number(chance.choice(SHARES)), cover)
    return sheet_told(numbers)


# Scenes

ONE = (1, 1)
HALF = (1, 2)
NONE = (0, 1)
LEAVES = ("plate", "band", "word", "stencil")
HOLDERS = ("group", "glass", "window", "turn", "tiles", "mask")


def part(name, kind, *data, holder="", x=0, y=0, shown=True):
    return (name, holder, x, y, shown, kind, data)


def plate(name, w=1, h=1, shade=ONE, share=ONE, **told):
    return part(name, "plate", w, h, shade, share, **told)


def some_share(chance):
    return chance.choice(SHARES + (ONE, ONE, HALF))


def some_data(chance, kind):
    """Small data of a kind, so that parts meet often on a small floor."""
    if kind == "plate":
        return (chance.randint(1, 7), chance.randint(1, 6), some_share(chance), some_share(chance))
    if kind == "band":
        return (chance.randint(-4, 4), chance.randint(-4, 4), some_share(chance), some_share(chance))
    if kind == "word":
        text = "".join(chance.choice("0123456789abcdef-_") for count in range(chance.randint(0, 2)))
        return (text, some_share(chance), some_share(chance))
    if kind == "stencil":
        wide = chance.randint(1, 6)
        rows = tuple("".join(chance.choice("###.") for x in range(wide)) for y in range(chance.randint(1, 6)))
        return (rows, some_share(chance), some_share(chance))
    if kind == "glass":
        return (some_share(chance),)
    if kind == "window":
        return (chance.randint(3, 9), chance.randint(2, 8), chance.randint(-3, 2), chance.randint(-3, 2))
    if kind == "turn":
        return (chance.randint(0, 3), chance.random() < 0.5)
    if kind == "tiles":
        return (chance.randint(1, 3), chance.randint(1, 3), chance.randint(-3, 4), chance.randint(-3, 4))
    return ()


def some_row(chance, rows, name, kinds=LEAVES + HOLDERS):
    """A row that may come behind the rows of a scene, but for depth and tiles in tiles."""
    holders = [row[0] for row in rows if row[5] in HOLDERS]
    holder = chance.choice(holders) if holders and chance.random() < 0.75 else ""
    kind = chance.choice(kinds)
    # What is turned lies left of its own cell or above it, so a turn is put further in.
    low = 1 if kind == "turn" else -2
    place = (chance.randint(low, low + 5), chance.randint(low, low + 4))
    return (name, holder) + place + (chance.random() < 0.93, kind, some_data(chance, kind))


def is_fit(rows, row):
    kinds = [other[5] for other in rows if other[0] in above(rows, row[1])]
    return len(kinds) <= 6 and not (row[5] == "tiles" and "tiles" in kinds)


def above(rows, name):
    """A part's name and those of all its holders; none for the floor."""
    names = []
    while name != "":
        names.append(name)
        name = [row for row in rows if row[0] == name][0][1]
    return names


def some_scene(chance, many=16):
    rows = []
    for count in range(chance.choice((0, many // 2, many, many, many))):
        kinds = HOLDERS if count < 3 else LEAVES * 4 + HOLDERS
        row = some_row(chance, rows, "p" + str(count), kinds)
        if is_fit(rows, row):
            rows.append(row)
        # A mask without parts is drawn as nothing, so most masks get a great stencil and a plate.
        if rows and rows[-1][5] == "mask" and len(rows) < many and chance.random() < 0.8:
            mask = rows[-1][0]
            kept = [plate("q" + str(count), 9, 8, ONE, chance.choice(COVERS), holder=mask, x=-2, y=-2)]
            kept.append(plate("r" + str(count), 4, 3, HALF, chance.choice(COVERS), holder=mask))
            rows.extend(row for row in kept if is_fit(rows, row))
    return rows


def some_floor(chance):
    return (chance.choice((1, 5, 8, 11)), chance.choice((1, 5, 7, 9)), chance.choice(SHARES))


# Scenes drawn as numbers: what the program tells is compared with this.

def row_named(rows, name):
    return [row for row in rows if row[0] == name][0]


def leaf_numbers(row):
    kind, data = row[5], row[6]
    make = {"plate": plate_sheet, "band": band_sheet, "word": word_sheet, "stencil": stencil_sheet}[kind]
    return numbers_of(make(*data))


def turned(cell, quarters, flipped):
    x, y = cell
    if flipped:
        x = -x
    for count in range(quarters % 4):
        x, y = -y, x
    return (x, y)


def gone(row, cell, laying=(0, 0)):
    """Where a cell of a holder's content comes to lie, or None where a window cuts it; one laying of tiles."""
    kind, data = row[5], row[6]
    x, y = cell
    if kind == "window":
        x, y = x - data[2], y - data[3]
        return (x, y) if 0 <= x < data[0] and 0 <= y < data[1] else None
    if kind == "turn":
        return turned(cell, data[0], data[1])
    if kind == "tiles":
        return (x + laying[0] * data[2], y + laying[1] * data[3])
    return cell


def layings_of(row):
    if row[5] != "tiles":
        return [(0, 0)]
    return [(i, j) for j in range(row[6][1]) for i in range(row[6][0])]


def moved(cells, go):
    """A dict from cells, each cell gone its way; those that went to None are left out."""
    return {go(cell): spot for cell, spot in cells.items() if go(cell) is not None}


def placed(row, cells):
    return moved(cells, lambda cell: (cell[0] + row[2], cell[1] + row[3]))


def layers_of_kids(rows, kids):
    """The layers of the shown ones: tuples (leaf, dict of its spots), the lowest first."""
    layers = []
    for row in kids:
        if row[4]:
            layers.extend((leaf, placed(row, cells)) for leaf, cells in layers_of(rows, row))
    return layers


def laid(numbers):
    """Several dicts of spots, laid over one another in this order."""
    whole = {}
    for cells in numbers:
        for cell, spot in cells.items():
            whole[cell] = over(spot, whole.get(cell))
    return whole


def kid_numbers(rows, kids):
    return laid(placed(row, own_numbers(rows, row)) for row in kids if row[4])


def own_numbers(rows, row):
    """A part's own sheet, as a dict of numbers."""
    if row[5] in LEAVES:
        return leaf_numbers(row)
    kids = [kid for kid in rows if kid[1] == row[0]]
    if row[5] == "mask":
        masks = kid_numbers(rows, kids[:1])
        content = kid_numbers(rows, kids[1:])
        return {
            cell: (ink * masks[cell][1], cover * masks[cell][1])
            for cell, (ink, cover) in content.items() if cell in masks
        }
    content = kid_numbers(rows, kids)
    if row[5] == "glass":
        share = as_number(row[6][0])
        content = {cell: (ink * share, cover * share) for cell, (ink, cover) in content.items() if share > 0}
    return laid(moved(content, lambda cell: gone(row, cell, laying)) for laying in layings_of(row))


def layers_of(rows, row):
    """The layers of a part at its own cells: tuples (leaf, dict of its spots), the lowest first."""
    if row[5] in LEAVES:
        return [(row[0], leaf_numbers(row))]
    kids = [kid for kid in rows if kid[1] == row[0]]
    if row[5] == "mask":
        masks = kid_numbers(rows, kids[:1])
        layers = layers_of_kids(rows, kids[1:])
        return [(leaf, {cell: True for cell in cells if cell in masks}) for leaf, cells in layers]
    if row[5] == "glass" and row[6][0] == NONE:
        return []
    layers = layers_of_kids(rows, kids)
    return [
        (leaf, moved(cells, lambda cell: gone(row, cell, laying)))
        for laying in layings_of(row) for leaf, cells in layers
    ]


def floor_layers(rows):
    return layers_of_kids(rows, [row for row in rows if row[1] == ""])


def under_due(layers, x, y):
    names = [leaf for leaf, cells in layers if (x, y) in cells]
    return list(dict.fromkeys(reversed(names)))


def floor_numbers(rows):
    return kid_numbers(rows, [row for row in rows if row[1] == ""])


def picture_due(rows, floor):
    numbers = floor_numbers(rows)
    ground = as_number(floor[2])
    picture = []
    for y in range(floor[1]):
        spots = [numbers.get((x, y), (0, 0)) for x in range(floor[0])]
        picture.append([as_told(Fraction(ink + ground * (1 - cover))) for ink, cover in spots])
    return picture


def frame_due(cells):
    if not cells:
        return None
    xs = [x for x, y in cells]
    ys = [y for x, y in cells]
    return (min(xs), min(ys), max(xs) - min(xs) + 1, max(ys) - min(ys) + 1)


def ways_due(rows, name):
    """For each laying of the tiles above a part: the cells of its own sheet on the floor."""
    chain = [row_named(rows, other) for other in above(rows, name)]
    ways = []
    for laying in ([layings_of(row) for row in chain[1:] if row[5] == "tiles"] or [[(0, 0)]])[0]:
        cells = placed(chain[0], own_numbers(rows, chain[0]))
        for row in chain[1:]:
            cells = placed(row, moved(cells, lambda cell: gone(row, cell, laying)))
        ways.append(list(cells))
    return ways


def places_due(rows, floor, name):
    chain = [row for row in rows if row[0] == name]
    if not chain or not all(row_named(rows, other)[4] for other in above(rows, name)):
        return []
    on_floor = [
        [(x, y) for x, y in cells if 0 <= x < floor[0] and 0 <= y < floor[1]] for cells in ways_due(rows, name)
    ]
    return [frame_due(cells) for cells in on_floor if cells]


def check_picture(case, picture, floor):
    case.assertIs(type(picture), list)
    case.assertEqual(len(picture), floor[1])
    for row in picture:
        case.assertIs(type(row), list)
        case.assertEqual(len(row), floor[0])
        case.assertTrue(all(is_told_fraction(shade) for shade in row))


def some_deed(chance, rows, number):
    """A deed, perhaps one that is refused; a put names its part by the number."""
    name = chance.choice([row[0] for row in rows] + ["nobody"]) if chance.random() < 0.97 and rows else "nobody"
    what = chance.choice((
        "move", "move", "move", "hide", "show", "show", "turn", "size", "change", "put", "put", "take", "raise", "sink",
    ))
    if what == "move":
        return (what, name, chance.randint(-2, 5), chance.randint(-2, 4))
    if what == "turn":
        turns = [row[0] for row in rows if row[5] == "turn"] + [name]
        return (what, chance.choice(turns), chance.choice((-(10 ** 30) - 1, -5, -1, 0, 1, 2, 3, 4, 10 ** 30 + 1)))
    if what == "size":
        sized = [row[0] for row in rows if row[5] in ("plate", "window")] + [name]
        return (what, chance.choice(sized), chance.randint(0, 9), chance.randint(1, 9))
    if what == "change":
        kinds = [row[5] for row in rows if row[0] == name] + ["plate"]
        return (what, name, some_data(chance, kinds[0]))
    if what == "put":
        return (what, some_row(chance, rows, "n" + str(number) if chance.random() < 0.95 else "p0"))
    return (what, name)
