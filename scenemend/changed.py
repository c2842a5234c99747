"""Pictures copied, and which cells of two of one size have unlike shades."""

from scenemend.cells import blocks_of


def picture_copied(picture):
    return [list(row) for row in picture]


def changed_cells(one, other):
    cells = []
    for y, row in enumerate(one):
        cells.extend([(x, y) for x, shade in enumerate(row) if shade != other[y][x]])
    return cells


def changed_blocks(one, other):
    return blocks_of(changed_cells(one, other))
