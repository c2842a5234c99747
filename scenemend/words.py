"""Words: leaves with plain spots where the signs of a text have their strokes."""

from scenemend.cells import row_by_row
from scenemend.font import stroke_cells
from scenemend.plain import plain_sheet

# A field is three cells wide, and one cell lies between two fields.
STEP = 4


def sign_cells(sign):
    return row_by_row(stroke_cells(sign))


def word_cells(text):
    cells = []
    for place, sign in enumerate(text):
        cells.extend([(STEP * place + x, y) for x, y in sign_cells(sign)])
    return cells


def word_has(text, x, y):
    place = x // STEP
    return 0 <= place < len(text) and (x - STEP * place, y) in sign_cells(text[place])


def word_sheet(text, shade, share):
    return plain_sheet(word_cells(text), shade, share)
