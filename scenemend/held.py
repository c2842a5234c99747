"""Sheets held as dicts from cells to spots, so that the spot of a cell is found at once."""

from scenemend.cells import row_by_row
from scenemend.spots import spot_laid


def held_of(sheet):
    held = {}
    for x, y, ink, cover in sheet:
        held[(x, y)] = (ink, cover)
    return held


def sheet_of(held):
    sheet = []
    for cell in row_by_row(list(held)):
        spot = held[cell]
        sheet.append((cell[0], cell[1], spot[0], spot[1]))
    return sheet


def lay_on(held, sheet):
    # The dict is the caller's own: it grows in place, so that laying many sheets builds one dict alone.
    for x, y, ink, cover in sheet:
        held[(x, y)] = spot_laid((ink, cover), held.get((x, y)))
