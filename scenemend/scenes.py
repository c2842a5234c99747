"""Scenes: lists of rows that are vetted, and what a scene tells of its parts and their holders."""

from scenemend.errors import Nested, NoHolder, NoName, NoPart, TooDeep, TooMany, Twice
from scenemend.rows import is_holder, is_row, row_holder, row_kind, row_name

MOST_ROWS = 24
MOST_HOLDERS = 6


def row_found(rows, name):
    for row in rows:
        if row_name(row) == name:
            return row
    return None


def row_of(rows, name):
    row = row_found(rows, name)
    if row is None:
        raise NoName("there is no part of that name")
    return row


def kid_rows(rows, name):
    return [row for row in rows if row_holder(row) == name]


def kids_of(rows, name):
    return [row_name(row) for row in kid_rows(rows, name)]


def holders_of(rows, name):
    holders = []
    row = row_found(rows, name)
    while row is not None and row_holder(row) != "":
        holders.append(row_holder(row))
        row = row_found(rows, row_holder(row))
    return holders


def parts_in(rows, name):
    return [row_name(row) for row in rows if name in holders_of(rows, row_name(row))]


def is_tiles(rows, name):
    return row_kind(row_of(rows, name)) == "tiles"


def vet_row(ahead, row):
    if not is_row(row):
        raise NoPart("a part's row has another form")
    if row_found(ahead, row_name(row)) is not None:
        raise Twice("a row ahead has this name")
    if row_holder(row) == "":
        return
    holder = row_found(ahead, row_holder(row))
    if holder is None or not is_holder(holder):
        raise NoHolder("no row ahead is a holder of this name")
    holders = [row_holder(row)] + holders_of(ahead, row_holder(row))
    if len(holders) > MOST_HOLDERS:
        raise TooDeep("a part has at most six holders")
    if row_kind(row) == "tiles" and any([is_tiles(ahead, name) for name in holders]):
        raise Nested("tiles lie in no other tiles")


def vet(rows):
    for place, row in enumerate(rows):
        vet_row(rows[:place], row)
    if len(rows) > MOST_ROWS:
        raise TooMany("a scene has at most twenty-four rows")
    return True
