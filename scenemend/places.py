"""Places: the boxes of a floor in which a part's own sheet comes to lie."""

from scenemend.boxes import box_has
from scenemend.cells import frame_of_cells
from scenemend.drawing import own_sheet
from scenemend.moves import cell_turned, laying_shifts
from scenemend.rows import row_data, row_kind, row_name, row_shown, row_x, row_y
from scenemend.scenes import holders_of, row_found, row_of
from scenemend.sheets import sheet_cells


def cells_shifted(cells, dx, dy):
    return [(x + dx, y + dy) for x, y in cells]


def cells_cut(cells, box):
    return [(x, y) for x, y in cells if box_has(box, x, y)]


def ways_in_holder(row, cells):
    # One list of cells for each laying, so that each gets a place of its own.
    kind = row_kind(row)
    data = row_data(row)
    if kind == "window":
        return [cells_cut(cells_shifted(cells, -data[2], -data[3]), (0, 0, data[0], data[1]))]
    if kind == "turn":
        return [[cell_turned(cell, data[0], data[1]) for cell in cells]]
    if kind == "tiles":
        shifts = laying_shifts(data[0], data[1], data[2], data[3])
        return [cells_shifted(cells, dx, dy) for dx, dy in shifts]
    return [cells]


def ways_to_floor(rows, row, cells):
    ways = [cells_shifted(cells, row_x(row), row_y(row))]
    for name in holders_of(rows, row_name(row)):
        holder = row_of(rows, name)
        gone = []
        for way in ways:
            gone.extend(ways_in_holder(holder, way))
        ways = [cells_shifted(way, row_x(holder), row_y(holder)) for way in gone]
    return ways


def is_seen(rows, name):
    # A name of no part may be asked for: nothing is seen of it.
    if row_found(rows, name) is None:
        return False
    return all([row_shown(row_of(rows, other)) for other in [name] + holders_of(rows, name)])


def places_by(rows, floor, name, sheet):
    # By the own sheet, so that one who keeps it need not draw it again.
    ways = ways_to_floor(rows, row_of(rows, name), sheet_cells(sheet))
    frames = [frame_of_cells(cells_cut(way, (0, 0, floor[0], floor[1]))) for way in ways]
    return [frame for frame in frames if frame is not None]


def places_of(rows, floor, name):
    if not is_seen(rows, name):
        return []
    return places_by(rows, floor, name, own_sheet(rows, name))
