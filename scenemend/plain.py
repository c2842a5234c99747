"""Plain spots, and the leaves that have them in a plate or where a stencil's rows say so."""

from scenemend.cells import cells_of, row_by_row
from scenemend.fractions import times


def plain_spot(shade, share):
    if share == (0, 1):
        return None
    return (times(shade, share), share)


def plain_sheet(cells, shade, share):
    spot = plain_spot(shade, share)
    if spot is None:
        return []
    return [(x, y, spot[0], spot[1]) for x, y in row_by_row(cells)]


def plate_cells(w, h):
    return cells_of((0, 0, w, h))


def plate_has(w, h, x, y):
    return 0 <= x < w and 0 <= y < h


def plate_sheet(w, h, shade, share):
    return plain_sheet(plate_cells(w, h), shade, share)


def stencil_cells(rows):
    cells = []
    for y, row in enumerate(rows):
        cells.extend([(x, y) for x, sign in enumerate(row) if sign == "#"])
    return cells


def stencil_has(rows, x, y):
    return 0 <= y < len(rows) and 0 <= x < len(rows[y]) and rows[y][x] == "#"


def stencil_sheet(rows, shade, share):
    return plain_sheet(stencil_cells(rows), shade, share)
