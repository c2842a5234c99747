"""Scenes drawn whole: own sheets, contents of holders, and pictures."""

from scenemend.held import held_of
from scenemend.making import content_laid, content_made, part_made
from scenemend.rows import row_name
from scenemend.scenes import kid_rows, row_of
from scenemend.spots import shade_on


def kids_drawn(rows, name):
    return [(row, own_sheet(rows, row_name(row))) for row in kid_rows(rows, name)]


def own_sheet(rows, name):
    row = row_of(rows, name)
    return part_made(row, kids_drawn(rows, name))


def content_of(rows, name):
    if name == "":
        return content_laid(kids_drawn(rows, name))
    row = row_of(rows, name)
    return content_made(row, kids_drawn(rows, name))


def shades_in_row(held, floor, y):
    return [shade_on(held.get((x, y)), floor[2]) for x in range(floor[0])]


def picture_from(content, floor):
    held = held_of(content)
    return [shades_in_row(held, floor, y) for y in range(floor[1])]


def picture_of(rows, floor):
    return picture_from(content_of(rows, ""), floor)
