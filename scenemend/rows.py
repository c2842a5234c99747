"""Rows (name, holder, x, y, shown, kind, data) that tell parts: what they hold, and which things are rows."""

from scenemend.font import is_sign
from scenemend.fractions import is_share, is_whole

NAME_SIGNS = "abcdefghijklmnopqrstuvwxyz0123456789"
HOLDERS = ("group", "glass", "window", "turn", "tiles", "mask")


def row_name(row):
    return row[0]


def row_holder(row):
    return row[1]


def row_x(row):
    return row[2]


def row_y(row):
    return row[3]


def row_shown(row):
    return row[4]


def row_kind(row):
    return row[5]


def row_data(row):
    return row[6]


def row_with_place(row, x, y):
    return row[:2] + (x, y) + row[4:]


def row_with_shown(row, shown):
    return row[:4] + (shown,) + row[5:]


def row_with_data(row, data):
    return row[:6] + (data,)


def is_holder(row):
    return row_kind(row) in HOLDERS


def is_truth(thing):
    return isinstance(thing, bool)


def is_within(thing, low, high):
    return is_whole(thing) and low <= thing <= high


def is_place(thing):
    return is_within(thing, -60, 60)


def is_bounded_share(thing):
    return is_share(thing) and thing[1] <= 1000


def is_paint(shade, share):
    return is_bounded_share(shade) and is_bounded_share(share)


def is_text_of(thing, signs, low, high):
    if not isinstance(thing, str) or not low <= len(thing) <= high:
        return False
    return all([sign in signs for sign in thing])


def is_name(thing):
    return is_text_of(thing, NAME_SIGNS, 1, 8)


def is_word_text(thing):
    if not isinstance(thing, str) or len(thing) > 6:
        return False
    return all([is_sign(sign) for sign in thing])


def are_stencil_rows(thing):
    if not isinstance(thing, tuple) or not 1 <= len(thing) <= 8:
        return False
    if not all([is_text_of(row, "#.", 1, 8) for row in thing]):
        return False
    return all([len(row) == len(thing[0]) for row in thing])


def is_plate(data):
    if len(data) != 4 or not is_paint(data[2], data[3]):
        return False
    return is_within(data[0], 1, 12) and is_within(data[1], 1, 12)


def is_band(data):
    if len(data) != 4 or not is_paint(data[2], data[3]):
        return False
    return is_within(data[0], -12, 12) and is_within(data[1], -12, 12)


def is_word(data):
    return len(data) == 3 and is_word_text(data[0]) and is_paint(data[1], data[2])


def is_stencil(data):
    return len(data) == 3 and are_stencil_rows(data[0]) and is_paint(data[1], data[2])


def is_empty(data):
    return len(data) == 0


def is_glass(data):
    return len(data) == 1 and is_bounded_share(data[0])


def is_window(data):
    if len(data) != 4 or not is_place(data[2]) or not is_place(data[3]):
        return False
    return is_within(data[0], 1, 16) and is_within(data[1], 1, 16)


def is_turn(data):
    return len(data) == 2 and is_within(data[0], 0, 3) and is_truth(data[1])


def are_tiles(data):
    if len(data) != 4 or not is_within(data[0], 1, 3) or not is_within(data[1], 1, 3):
        return False
    return is_within(data[2], -20, 20) and is_within(data[3], -20, 20)


FORMS = {
    "plate": is_plate,
    "band": is_band,
    "word": is_word,
    "stencil": is_stencil,
    "group": is_empty,
    "glass": is_glass,
    "window": is_window,
    "turn": is_turn,
    "tiles": are_tiles,
    "mask": is_empty,
}


def is_data(kind, data):
    return isinstance(kind, str) and kind in FORMS and isinstance(data, tuple) and FORMS[kind](data)


def is_row(thing):
    if not isinstance(thing, tuple) or len(thing) != 7:
        return False
    if not is_name(row_name(thing)):
        return False
    if row_holder(thing) != "" and not is_name(row_holder(thing)):
        return False
    if not is_place(row_x(thing)) or not is_place(row_y(thing)):
        return False
    return is_truth(row_shown(thing)) and is_data(row_kind(thing), row_data(thing))
