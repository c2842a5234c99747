"""The order of rows: a part's rows taken out, raised above all others of its holder, or sunk beneath them."""

from scenemend.rows import row_holder, row_name
from scenemend.scenes import parts_in, row_of


def names_with(rows, name):
    return [name] + parts_in(rows, name)


def rows_with(rows, name):
    names = names_with(rows, name)
    return [row for row in rows if row_name(row) in names]


def rows_without(rows, name):
    names = names_with(rows, name)
    return [row for row in rows if row_name(row) not in names]


def rows_raised(rows, name):
    return rows_without(rows, name) + rows_with(rows, name)


def place_behind(rows, holder):
    # The floor has no row: what it holds comes ahead of all others.
    return 0 if holder == "" else rows.index(row_of(rows, holder)) + 1


def rows_sunk(rows, name):
    rest = rows_without(rows, name)
    place = place_behind(rest, row_holder(row_of(rows, name)))
    return rest[:place] + rows_with(rows, name) + rest[place:]
