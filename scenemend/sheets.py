"""Sheets: lists of tuples (x, y, ink, cover), row by row, each cell once."""

from scenemend.boxes import box_has
from scenemend.cells import frame_of_cells
from scenemend.held import held_of, lay_on, sheet_of
from scenemend.moves import cell_turned
from scenemend.spots import spot_shared


def sheet_cells(sheet):
    return [(x, y) for x, y, ink, cover in sheet]


def sheet_frame(sheet):
    return frame_of_cells(sheet_cells(sheet))


def laid_over(upper, lower):
    held = held_of(lower)
    lay_on(held, upper)
    return sheet_of(held)


def sheet_shifted(sheet, dx, dy):
    return [(x + dx, y + dy, ink, cover) for x, y, ink, cover in sheet]


def sheet_cut(sheet, box):
    return [(x, y, ink, cover) for x, y, ink, cover in sheet if box_has(box, x, y)]


def sheet_shared(sheet, share):
    held = {}
    for x, y, ink, cover in sheet:
        spot = spot_shared((ink, cover), share)
        if spot is not None:
            held[(x, y)] = spot
    return sheet_of(held)


def sheet_masked(sheet, stencil):
    covers = held_of(stencil)
    held = {}
    for x, y, ink, cover in sheet:
        over = covers.get((x, y))
        if over is not None:
            held[(x, y)] = spot_shared((ink, cover), over[1])
    return sheet_of(held)


def sheet_turned(sheet, quarters, flipped):
    held = {}
    for x, y, ink, cover in sheet:
        held[cell_turned((x, y), quarters, flipped)] = (ink, cover)
    return sheet_of(held)
