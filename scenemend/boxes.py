"""Boxes (x, y, w, h): where they meet, and what one has without others."""

from scenemend.cells import frame_of_cells


def right_of(box):
    return box[0] + box[2]


def bottom_of(box):
    return box[1] + box[3]


def has_cells(box):
    return box[2] > 0 and box[3] > 0


def box_has(box, x, y):
    return box[0] <= x < right_of(box) and box[1] <= y < bottom_of(box)


def box_meet(one, other):
    x = max(one[0], other[0])
    y = max(one[1], other[1])
    w = min(right_of(one), right_of(other)) - x
    h = min(bottom_of(one), bottom_of(other)) - y
    meet = (x, y, w, h)
    return meet if has_cells(meet) else None


def box_less(one, other):
    meet = box_meet(one, other)
    if meet is None:
        return [one]
    x = one[0]
    y = one[1]
    w = one[2]
    above = (x, y, w, meet[1] - y)
    left = (x, meet[1], meet[0] - x, meet[3])
    right = (right_of(meet), meet[1], right_of(one) - right_of(meet), meet[3])
    below = (x, bottom_of(meet), w, bottom_of(one) - bottom_of(meet))
    return [box for box in [above, left, right, below] if has_cells(box)]


def frame_of_boxes(boxes):
    # Two opposite corners of a box have the same frame as all its cells.
    corners = []
    for box in boxes:
        corners.append((box[0], box[1]))
        corners.append((right_of(box) - 1, bottom_of(box) - 1))
    return frame_of_cells(corners)


def each_less(boxes, other):
    rest = []
    for box in boxes:
        rest.extend(box_less(box, other))
    return rest


def box_less_all(box, others):
    rest = [box]
    for other in others:
        rest = each_less(rest, other)
    return rest


def boxes_parted(boxes):
    parted = []
    for place, box in enumerate(boxes):
        parted.extend(box_less_all(box, boxes[:place]))
    return parted
