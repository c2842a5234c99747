"""A desk: rows of text said to a book, each answered by a text."""

from scenemend.book import Book
from scenemend.cells import blocks_of
from scenemend.errors import NoRow
from scenemend.frames import frame_cells
from scenemend.looking import parts_under
from scenemend.notes import fraction_read, picture_shown, row_read, scene_read, scene_shown, whole_read
from scenemend.places import places_of
from scenemend.rows import is_bounded_share, is_within

FIRST_FLOOR = (8, 4, (0, 1))

# What stands behind the first word of each row but scene and put.
FORMS = {
    "move": ("name", "whole", "whole"),
    "turn": ("name", "whole"),
    "size": ("name", "whole", "whole"),
    "hide": ("name",),
    "show": ("name",),
    "raise": ("name",),
    "sink": ("name",),
    "take": ("name",),
    "undo": (),
    "redo": (),
    "picture": (),
    "text": (),
    "under": ("whole", "whole"),
    "places": ("name",),
    "films": (),
}


def box_written(box):
    return ",".join([str(number) for number in box])


def boxes_written(boxes):
    return " ".join([box_written(box) for box in boxes])


def frame_written(frame):
    return boxes_written(blocks_of(frame_cells(frame)))


def word_read(form, word):
    return word if form == "name" else whole_read(word)


def words_read(words):
    if words[0] not in FORMS or len(words) != 1 + len(FORMS[words[0]]):
        raise NoRow("no such row is asked at a desk")
    told = [word_read(form, word) for form, word in zip(FORMS[words[0]], words[1:])]
    if any([thing is None for thing in told]):
        raise NoRow("a number is written otherwise")
    return [words[0]] + told


def is_floor(thing):
    return is_within(thing[0], 1, 24) and is_within(thing[1], 1, 24) and is_bounded_share(thing[2])


def floor_read(words):
    if len(words) != 4 or words[0] != "scene":
        raise NoRow("a scene has a floor of three words")
    floor = (whole_read(words[1]), whole_read(words[2]), fraction_read(words[3]))
    if not is_floor(floor):
        raise NoRow("a floor has other bounds")
    return floor


def put_read(words):
    row = row_read(" ".join(words))
    if row is None:
        raise NoRow("the words write no part's row")
    return ("put", row)


class Desk:
    def __init__(self):
        self.floor_now = FIRST_FLOOR
        self.book = Book([], FIRST_FLOOR)

    def say(self, row):
        if row.startswith("scene"):
            return self.scene_said(row)
        if "\n" in row:
            raise NoRow("only a scene has more than one row")
        words = row.split(" ")
        if words[0] == "put":
            return frame_written(self.book.do(put_read(words[1:])))
        told = words_read(words)
        if told[0] in ("undo", "redo"):
            return self.step_said(told[0])
        if told[0] in ("picture", "text", "under", "places", "films"):
            return self.asked(told)
        return frame_written(self.book.do(tuple(told)))

    def scene_said(self, row):
        parts = row.partition("\n")
        if parts[1] == "":
            raise NoRow("the text of a scene stands behind a line feed")
        floor = floor_read(parts[0].split(" "))
        self.book = Book(scene_read(parts[2]), floor)
        self.floor_now = floor
        return "ok"

    def step_said(self, what):
        return frame_written(self.book.undo() if what == "undo" else self.book.redo())

    def asked(self, told):
        what = told[0]
        if what == "picture":
            return picture_shown(self.book.picture())
        if what == "text":
            return scene_shown(self.book.rows())
        if what == "under":
            return " ".join(parts_under(self.book.rows(), told[1], told[2]))
        if what == "places":
            return boxes_written(places_of(self.book.rows(), self.floor_now, told[1]))
        return str(self.book.film_count())
