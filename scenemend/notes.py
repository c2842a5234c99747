"""Notes: scenes and pictures written as texts, and texts of scenes read."""

from scenemend.errors import NoText
from scenemend.rows import is_row, row_data, row_holder, row_kind, row_name, row_shown, row_x, row_y

FIGURES = "0123456789"

# What stands in the data of each kind.
FORMS = {
    "plate": ("whole", "whole", "fraction", "fraction"),
    "band": ("whole", "whole", "fraction", "fraction"),
    "word": ("text", "fraction", "fraction"),
    "stencil": ("rows", "fraction", "fraction"),
    "group": (),
    "glass": ("fraction",),
    "window": ("whole", "whole", "whole", "whole"),
    "turn": ("whole", "flipped"),
    "tiles": ("whole", "whole", "whole", "whole"),
    "mask": (),
}

# Kind, name, holder, x, y and on or off stand ahead of the data.
HEAD = 6


def text_written(text):
    return "." if text == "" else text


def text_read(word):
    return "" if word == "." else word


def is_figures(word):
    if word == "" or not all([sign in FIGURES for sign in word]):
        return False
    return word == "0" or word[0] != "0"


def whole_read(word):
    # None is told, not refused: each asker has a refusal of its own.
    below = word.startswith("-")
    figures = word[1:] if below else word
    if not is_figures(figures) or word == "-0":
        return None
    number = 0
    # Figure by figure: Python's own reading refuses very long numbers.
    for figure in figures:
        number = number * 10 + FIGURES.index(figure)
    return -number if below else number


def fraction_written(share):
    top = share[0]
    bottom = share[1]
    return f"{top}/{bottom}"


def fraction_read(word):
    # Perhaps not in lowest terms: whether it is a share is asked where it is used.
    parts = word.partition("/")
    top = whole_read(parts[0])
    bottom = whole_read(parts[2])
    return None if top is None or bottom is None else (top, bottom)


def datum_written(form, thing):
    if form == "fraction":
        return fraction_written(thing)
    if form == "text":
        return text_written(thing)
    if form == "rows":
        return ":".join(thing)
    if form == "flipped":
        return "flip" if thing else "flat"
    return str(thing)


def datum_read(form, word):
    if form == "fraction":
        return fraction_read(word)
    if form == "text":
        return text_read(word)
    if form == "rows":
        return tuple(word.split(":"))
    if form == "flipped":
        return word == "flip"
    return whole_read(word)


def row_written(row):
    shown = "on" if row_shown(row) else "off"
    words = [row_kind(row), row_name(row), text_written(row_holder(row)), str(row_x(row)), str(row_y(row)), shown]
    forms = FORMS[row_kind(row)]
    words.extend([datum_written(form, thing) for form, thing in zip(forms, row_data(row))])
    return " ".join(words)


def row_guessed(words):
    data = [datum_read(form, word) for form, word in zip(FORMS[words[0]], words[HEAD:])]
    holder = text_read(words[2])
    return (words[1], holder, whole_read(words[3]), whole_read(words[4]), words[5] == "on", words[0], tuple(data))


def row_read(text):
    words = text.split(" ")
    if words[0] not in FORMS or len(words) != HEAD + len(FORMS[words[0]]):
        return None
    row = row_guessed(words)
    # A row is written in one way alone, so a text that is read loosely is told by writing it again.
    return row if is_row(row) and row_written(row) == text else None


def scene_shown(rows):
    return "\n".join([row_written(row) for row in rows])


def scene_read(text):
    if text == "":
        return []
    rows = [row_read(line) for line in text.split("\n")]
    if any([row is None for row in rows]):
        raise NoText("a text of a scene writes rows of parts")
    return rows


def shades_written(shades):
    return " ".join([fraction_written(shade) for shade in shades])


def picture_shown(picture):
    return "\n".join([shades_written(shades) for shades in picture])
