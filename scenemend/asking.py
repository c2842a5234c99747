"""One cell asked by itself: a part's spot or the floor's shade there, without drawing anything whole."""

from scenemend.making import leaf_has
from scenemend.moves import cell_turned_back, laying_shifts
from scenemend.plain import plain_spot, plate_has
from scenemend.rows import is_holder, row_data, row_kind, row_name, row_shown, row_x, row_y
from scenemend.scenes import kid_rows, row_of
from scenemend.spots import shade_on, spot_laid, spot_shared


def cells_within(row, x, y):
    # In the order in which they are laid, so that the spots of later ones come over earlier ones.
    kind = row_kind(row)
    data = row_data(row)
    if kind == "window":
        return [(x + data[2], y + data[3])] if plate_has(data[0], data[1], x, y) else []
    if kind == "turn":
        return [cell_turned_back((x, y), data[0], data[1])]
    if kind == "tiles":
        shifts = laying_shifts(data[0], data[1], data[2], data[3])
        return [(x - dx, y - dy) for dx, dy in shifts]
    return [(x, y)]


def leaf_spot(row, x, y):
    data = row_data(row)
    return plain_spot(data[-2], data[-1]) if leaf_has(row, x, y) else None


def content_spot(rows, kids, x, y):
    spot = None
    for row in kids:
        if row_shown(row):
            spot = spot_laid(part_spot(rows, row, x - row_x(row), y - row_y(row)), spot)
    return spot


def mask_spot(rows, kids, x, y):
    stencil = content_spot(rows, kids[:1], x, y)
    if stencil is None:
        return None
    return spot_shared(content_spot(rows, kids[1:], x, y), stencil[1])


def holder_spot(rows, row, x, y):
    kids = kid_rows(rows, row_name(row))
    if row_kind(row) == "mask":
        return mask_spot(rows, kids, x, y)
    spot = None
    for cell in cells_within(row, x, y):
        spot = spot_laid(content_spot(rows, kids, cell[0], cell[1]), spot)
    return spot_shared(spot, row_data(row)[0]) if row_kind(row) == "glass" else spot


def part_spot(rows, row, x, y):
    return holder_spot(rows, row, x, y) if is_holder(row) else leaf_spot(row, x, y)


def spot_at(rows, name, x, y):
    return part_spot(rows, row_of(rows, name), x, y)


def shade_at(rows, floor, x, y):
    return shade_on(content_spot(rows, kid_rows(rows, ""), x, y), floor[2])
