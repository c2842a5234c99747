"""Boxes (x, y, w, h): where they meet, and what one has without others."""

from scenemend.cells import frame_of_cells


def right_of(box):
    return box[0] + box[2]


def bottom_of(box):
    return box[1] + box[3]


def has_cells(box):
    return box[2] > 0 and box[3] > 0


def box_has(box, x, y):
    return box[0] <= x < right_of(box) and box[1] <= y < bottom_of(box)


def box_meet(one, other):
    x = max(one[0], other[0])
    y = max(one[1], other[1])
    w = min(right_of(one), right_of(other)) - x
    h = min(bottom_of(one), bottom_of(other)) - y
    meet = (x, y, w, h)
    return meet if has_cells(meet) else None


def box_less(one, other):
    meet = box_meet(one, other)
    if meet is None:
        return [one]
    return box_around(one, meet)


def box_around(box, inner):
    # The order of the pieces is promised: above, left, right, below.
    right = right_of(inner)
    bottom = bottom_of(inner)
    pieces = []
    if box[1] < inner[1]:
        pieces.append((box[0], box[1], box[2], inner[1] - box[1]))
    if box[0] < inner[0]:
        pieces.append((box[0], inner[1], inner[0] - box[0], inner[3]))
    if right < right_of(box):
        pieces.append((right, inner[1], right_of(box) - right, inner[3]))
    if bottom < bottom_of(box):
        pieces.append((box[0], bottom, box[2], bottom_of(box) - bottom))
    return pieces


def frame_of_boxes(boxes):
    # Two opposite corners of a box have the same frame as all its cells.
    corners = []
    for box in boxes:
        corners.append((box[0], box[1]))
        corners.append((right_of(box) - 1, bottom_of(box) - 1))
    return frame_of_cells(corners)


def next_meeting(box, others, place):
    left = box[0]
    top = box[1]
    right = right_of(box)
    bottom = bottom_of(box)
    # Written out, not by box_meet: parting many boxes asks this most of all.
    for number in range(place, len(others)):
        other = others[number]
        if other[0] < right and left < other[0] + other[2] and other[1] < bottom and top < other[1] + other[3]:
            return number
    return len(others)


def box_less_all(box, others):
    rest = []
    waiting = [(box, 0)]
    while len(waiting) > 0:
        last = waiting.pop()
        place = next_meeting(last[0], others, last[1])
        if place == len(others):
            rest.append(last[0])
        else:
            # The last one that waits is cut next, so the pieces come in their order.
            for piece in reversed(box_less(last[0], others[place])):
                waiting.append((piece, place + 1))
    return rest


def boxes_parted(boxes):
    parted = []
    for place, box in enumerate(boxes):
        near = [other for other in boxes[:place] if box_meet(box, other) is not None]
        parted.extend(box_less_all(box, near))
    return parted
