"""Deeds: what comes of the rows of a scene, and which part a deed touches."""

from scenemend.errors import NoPart, WrongKind
from scenemend.order import rows_raised, rows_sunk, rows_without
from scenemend.rows import (
    is_row, row_data, row_holder, row_kind, row_name, row_with_data, row_with_place, row_with_shown,
)
from scenemend.scenes import row_found, row_of, vet

# These may give a mask another stencil.
AMONG_OTHERS = ("put", "take", "raise", "sink")


def row_turned(row, quarters):
    if row_kind(row) != "turn":
        raise WrongKind("only a turn is turned")
    data = row_data(row)
    return row_with_data(row, ((data[0] + quarters) % 4, data[1]))


def row_sized(row, w, h):
    if row_kind(row) not in ("plate", "window"):
        raise WrongKind("only a plate or a window is sized")
    return row_with_data(row, (w, h) + row_data(row)[2:])


def row_done(row, deed):
    what = deed[0]
    if what == "move":
        return row_with_place(row, deed[2], deed[3])
    if what == "turn":
        return row_turned(row, deed[2])
    if what == "size":
        return row_sized(row, deed[2], deed[3])
    if what == "change":
        return row_with_data(row, deed[2])
    return row_with_shown(row, what == "show")


def rows_changed(rows, deed):
    changed = row_done(row_of(rows, deed[1]), deed)
    if not is_row(changed):
        raise NoPart("the part's row would have another form")
    return [changed if row_name(row) == deed[1] else row for row in rows]


def rows_put(rows, row):
    behind = rows + [row]
    vet(behind)
    return behind


def deed_done(rows, deed):
    what = deed[0]
    if what == "put":
        return rows_put(rows, deed[1])
    row_of(rows, deed[1])
    if what == "take":
        return rows_without(rows, deed[1])
    if what == "raise":
        return rows_raised(rows, deed[1])
    if what == "sink":
        return rows_sunk(rows, deed[1])
    return rows_changed(rows, deed)


def row_meant(rows, deed):
    return deed[1] if deed[0] == "put" else row_of(rows, deed[1])


def is_mask(rows, name):
    row = row_found(rows, name)
    return row is not None and row_kind(row) == "mask"


def touched_by(rows, deed):
    row = row_meant(rows, deed)
    if deed[0] in AMONG_OTHERS and is_mask(rows, row_holder(row)):
        return row_holder(row)
    return row_name(row)
