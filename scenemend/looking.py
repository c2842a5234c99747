"""Looking at a scene: which leaves colour a cell, and where two parts of one holder meet."""

from scenemend.asking import cells_within
from scenemend.drawing import own_sheet
from scenemend.making import leaf_has, sheet_placed
from scenemend.rows import is_holder, row_data, row_kind, row_name, row_shown, row_x, row_y
from scenemend.scenes import kid_rows, row_of
from scenemend.sheets import sheet_cells


def content_names(rows, kids, x, y):
    # Perhaps some twice, where tiles lay more of them: the first time is the uppermost spot.
    names = []
    for row in reversed(kids):
        if row_shown(row):
            names.extend(part_names(rows, row, x - row_x(row), y - row_y(row)))
    return names


def leaf_names(row, x, y):
    has_spots = row_data(row)[-1] != (0, 1)
    return [row_name(row)] if has_spots and leaf_has(row, x, y) else []


def content_kids(rows, row, x, y):
    # Where a glass or a mask leaves no cover, no row colours the cell.
    kids = kid_rows(rows, row_name(row))
    if row_kind(row) == "glass" and row_data(row)[0] == (0, 1):
        return []
    if row_kind(row) != "mask":
        return kids
    # A part has a spot just where some leaf in it colours the cell.
    return kids[1:] if len(content_names(rows, kids[:1], x, y)) > 0 else []


def holder_names(rows, row, x, y):
    kids = content_kids(rows, row, x, y)
    names = []
    for cell in reversed(cells_within(row, x, y)):
        names.extend(content_names(rows, kids, cell[0], cell[1]))
    return names


def part_names(rows, row, x, y):
    return holder_names(rows, row, x, y) if is_holder(row) else leaf_names(row, x, y)


def each_once(names):
    told = []
    for name in names:
        if name not in told:
            told.append(name)
    return told


def parts_under(rows, x, y):
    return each_once(content_names(rows, kid_rows(rows, ""), x, y))


def cells_held(rows, name):
    return sheet_cells(sheet_placed(row_of(rows, name), own_sheet(rows, name)))


def meeting(rows, one, other):
    others = {}
    for cell in cells_held(rows, other):
        others[cell] = True
    for cell in cells_held(rows, one):
        if cell in others:
            return cell
    return None
