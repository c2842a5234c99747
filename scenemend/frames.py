"""Frames: lists of tuples (x, y, olds, news) that lead from one picture to another."""

from scenemend.cells import stretches_of
from scenemend.changed import changed_cells, picture_copied
from scenemend.errors import Unlike


def frame_of(olds, news):
    # Both dicts have the same cells, some perhaps with shades that are alike.
    cells = [cell for cell in olds if olds[cell] != news[cell]]
    frame = []
    for x, y, many in stretches_of(cells):
        old = [olds[(x + step, y)] for step in range(many)]
        new = [news[(x + step, y)] for step in range(many)]
        frame.append((x, y, old, new))
    return frame


def frame_between(one, other):
    olds = {}
    news = {}
    for x, y in changed_cells(one, other):
        olds[(x, y)] = one[y][x]
        news[(x, y)] = other[y][x]
    return frame_of(olds, news)


def frame_cells(frame):
    cells = []
    for x, y, olds, news in frame:
        cells.extend([(x + step, y) for step in range(len(olds))])
    return cells


def shades_at(picture, x, y, many):
    # Python would count a place below 0 from the end, but there the picture has no cell.
    if x < 0 or not 0 <= y < len(picture):
        return []
    return picture[y][x:x + many]


def frame_played(frame, picture):
    for x, y, olds, news in frame:
        if shades_at(picture, x, y, len(olds)) != olds:
            raise Unlike("the picture has other shades where the frame begins")
    played = picture_copied(picture)
    for x, y, olds, news in frame:
        for step, shade in enumerate(news):
            played[y][x + step] = shade
    return played


def frame_back(frame):
    return [(x, y, list(news), list(olds)) for x, y, olds, news in frame]


def olds_of(frame):
    shades = {}
    for x, y, olds, news in frame:
        for step, shade in enumerate(olds):
            shades[(x + step, y)] = shade
    return shades


def first_over(one, other):
    # What is put in last stays, so the first one comes last.
    both = dict(other)
    both.update(one)
    return both


def frames_joined(one, other):
    # A cell has its oldest shade from the first frame that has it, its newest one from the last.
    olds = first_over(olds_of(one), olds_of(other))
    news = first_over(olds_of(frame_back(other)), olds_of(frame_back(one)))
    return frame_of(olds, news)
