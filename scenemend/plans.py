"""Plans for moves: which cells are copied from the old picture, and which are drawn anew."""

from scenemend.cells import cells_of, stretches_of
from scenemend.changed import picture_copied
from scenemend.copies import cells_copied, shift_of
from scenemend.deeds import deed_done
from scenemend.places import places_of


def cells_beside(boxes, cells):
    barred = {}
    for cell in cells:
        barred[cell] = True
    rest = []
    for box in boxes:
        rest.extend([cell for cell in cells_of(box) if cell not in barred])
    return rest


def plan_of(rows, floor, name, x, y):
    behind = deed_done(rows, ("move", name, x, y))
    copied = cells_copied(rows, behind, floor, name)
    places = places_of(rows, floor, name) + places_of(behind, floor, name)
    drawn = stretches_of(cells_beside(places, copied))
    return (shift_of(rows, behind, name), stretches_of(copied), drawn)


def stretch_cells(stretches):
    cells = []
    for x, y, many in stretches:
        cells.extend(cells_of((x, y, many, 1)))
    return cells


def plan_done(plan, old, behind):
    shift = plan[0]
    picture = picture_copied(old)
    for x, y in stretch_cells(plan[1]):
        picture[y][x] = old[y - shift[1]][x - shift[0]]
    # Drawn behind the copies: where a cell is both, it is as in the picture behind.
    for x, y in stretch_cells(plan[2]):
        picture[y][x] = behind[y][x]
    return picture
