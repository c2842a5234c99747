"""Own sheets of parts, made of a part's row and of the own sheets of the parts that it holds."""

from scenemend.bands import band_cells
from scenemend.held import lay_on, sheet_of
from scenemend.moves import laying_shifts
from scenemend.plain import plain_sheet, plate_cells, plate_has, stencil_cells, stencil_has
from scenemend.rows import is_holder, row_data, row_kind, row_shown, row_x, row_y
from scenemend.sheets import sheet_cut, sheet_masked, sheet_shared, sheet_shifted, sheet_turned
from scenemend.words import word_cells, word_has


def leaf_cells(kind, data):
    if kind == "plate":
        return plate_cells(data[0], data[1])
    if kind == "band":
        return band_cells(data[0], data[1])
    if kind == "word":
        return word_cells(data[0])
    return stencil_cells(data[0])


def leaf_has(row, x, y):
    kind = row_kind(row)
    data = row_data(row)
    if kind == "plate":
        return plate_has(data[0], data[1], x, y)
    if kind == "band":
        return (x, y) in band_cells(data[0], data[1])
    if kind == "word":
        return word_has(data[0], x, y)
    return stencil_has(data[0], x, y)


def leaf_made(row):
    # Shade and share stand last in the data of each leaf.
    data = row_data(row)
    return plain_sheet(leaf_cells(row_kind(row), data), data[-2], data[-1])


def sheet_placed(row, sheet):
    return sheet_shifted(sheet, row_x(row), row_y(row))


def content_laid(kids):
    # Own sheets come along with their rows, so that kept ones serve as well as those just drawn.
    held = {}
    for row, sheet in kids:
        if row_shown(row):
            lay_on(held, sheet_placed(row, sheet))
    return sheet_of(held)


def content_made(row, kids):
    # The lowest part of a mask is its stencil and no content.
    return content_laid(kids[1:] if row_kind(row) == "mask" else kids)


def tiles_laid(data, content):
    held = {}
    for dx, dy in laying_shifts(data[0], data[1], data[2], data[3]):
        lay_on(held, sheet_shifted(content, dx, dy))
    return sheet_of(held)


def mask_made(kids, content):
    # content_laid leaves no spots of a stencil that is not shown, or of none.
    return sheet_masked(content, content_laid(kids[:1]))


def holder_made(row, kids):
    kind = row_kind(row)
    data = row_data(row)
    content = content_made(row, kids)
    if kind == "glass":
        return sheet_shared(content, data[0])
    if kind == "window":
        return sheet_cut(sheet_shifted(content, -data[2], -data[3]), (0, 0, data[0], data[1]))
    if kind == "turn":
        return sheet_turned(content, data[0], data[1])
    if kind == "tiles":
        return tiles_laid(data, content)
    if kind == "mask":
        return mask_made(kids, content)
    return content


def part_made(row, kids):
    return holder_made(row, kids) if is_holder(row) else leaf_made(row)
