"""Copies: cells of a moved part whose shades can be taken from the old picture."""

from scenemend.cells import stretches_of
from scenemend.deeds import deed_done
from scenemend.drawing import own_sheet
from scenemend.looking import parts_under
from scenemend.order import names_with
from scenemend.places import is_seen
from scenemend.plain import plate_has
from scenemend.rows import row_data, row_kind, row_x, row_y
from scenemend.scenes import holders_of, row_of

# These shift what they hold, and do nothing else to the cells that they leave.
SHIFTING = ("group", "window")


def shift_of(ahead, behind, name):
    one = row_of(ahead, name)
    other = row_of(behind, name)
    return (row_x(other) - row_x(one), row_y(other) - row_y(one))


def may_copy(rows, name):
    kinds = [row_kind(row_of(rows, holder)) for holder in holders_of(rows, name)]
    return is_seen(rows, name) and all([kind in SHIFTING for kind in kinds])


def own_corner(rows, name):
    # Groups and windows only shift, so the own cell (0, 0) tells where all others lie.
    row = row_of(rows, name)
    x = row_x(row)
    y = row_y(row)
    for holder in [row_of(rows, other) for other in holders_of(rows, name)]:
        x += row_x(holder)
        y += row_y(holder)
        if row_kind(holder) == "window":
            x -= row_data(holder)[2]
            y -= row_data(holder)[3]
    return (x, y)


def full_cells(rows, name):
    # Perhaps beside the floor: both ends of a move are asked for that at once.
    corner = own_corner(rows, name)
    return [(corner[0] + x, corner[1] + y) for x, y, ink, cover in own_sheet(rows, name) if cover == (1, 1)]


def is_on(floor, cell):
    return plate_has(floor[0], floor[1], cell[0], cell[1])


def is_uppermost(rows, names, cell):
    under = parts_under(rows, cell[0], cell[1])
    return len(under) > 0 and under[0] in names


def cells_copied(ahead, behind, floor, name):
    shift = shift_of(ahead, behind, name)
    if shift == (0, 0) or not may_copy(ahead, name):
        return []
    names = names_with(ahead, name)
    copied = []
    for cell in full_cells(behind, name):
        source = (cell[0] - shift[0], cell[1] - shift[1])
        if is_on(floor, cell) and is_on(floor, source):
            if is_uppermost(ahead, names, source) and is_uppermost(behind, names, cell):
                copied.append(cell)
    return copied


def copies_of(rows, floor, name, x, y):
    behind = deed_done(rows, ("move", name, x, y))
    return stretches_of(cells_copied(rows, behind, floor, name))
