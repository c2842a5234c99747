import unittest

from scenemend.boxes import box_less, box_meet, boxes_parted, frame_of_boxes
from scenemend.cells import cells_of, frame_of_cells


def boxes_within(left, top, wide, high):
    told = []
    for x in range(left, left + wide):
        for y in range(top, top + high):
            for w in range(1, left + wide - x + 1):
                for h in range(1, top + high - y + 1):
                    told.append((x, y, w, h))
    return told


ALL = boxes_within(-2, -1, 4, 4)


def cells_of_all(boxes):
    return [cell for box in boxes for cell in cells_of(box)]


def some_lists():
    # Steps through all boxes that share no divisor with their number, so the lists differ much.
    for step in (1, 3, 7, 11, 13, 17, 19, 37, 41, 61, 73, 89):
        for many in (1, 2, 3, 4, 6):
            for start in range(0, 100, 9):
                yield [ALL[(start + place * step) % len(ALL)] for place in range(many)]


class BoxMeetTest(unittest.TestCase):
    def test_meeting(self):
        self.assertEqual(box_meet((0, 0, 4, 3), (2, 1, 5, 5)), (2, 1, 2, 2))
        self.assertEqual(box_meet((2, 1, 5, 5), (0, 0, 4, 3)), (2, 1, 2, 2))
        self.assertEqual(box_meet((-3, -3, 4, 4), (0, -9, 2, 20)), (0, -3, 1, 4))

    def test_side_by_side(self):
        self.assertIsNone(box_meet((0, 0, 2, 2), (2, 0, 2, 2)))
        self.assertIsNone(box_meet((2, 0, 2, 2), (0, 0, 2, 2)))
        self.assertIsNone(box_meet((0, 0, 2, 2), (0, 2, 2, 2)))
        self.assertIsNone(box_meet((0, 2, 2, 2), (0, 0, 2, 2)))

    def test_at_a_corner_and_far_apart(self):
        self.assertIsNone(box_meet((0, 0, 2, 2), (2, 2, 2, 2)))
        self.assertIsNone(box_meet((-900, 0, 2, 2), (900, 0, 2, 2)))

    def test_within_and_alike(self):
        self.assertEqual(box_meet((0, 0, 9, 9), (3, 4, 2, 1)), (3, 4, 2, 1))
        self.assertEqual(box_meet((3, 4, 2, 1), (0, 0, 9, 9)), (3, 4, 2, 1))
        self.assertEqual(box_meet((3, 4, 2, 1), (3, 4, 2, 1)), (3, 4, 2, 1))

    def test_every_two_boxes_by_their_cells(self):
        for one in ALL:
            ones = set(cells_of(one))
            for other in ALL:
                both = sorted(ones & set(cells_of(other)))
                self.assertEqual(box_meet(one, other), frame_of_cells(both))


class BoxLessTest(unittest.TestCase):
    def test_above_left_right_below(self):
        self.assertEqual(
            box_less((0, 0, 10, 8), (3, 2, 4, 5)),
            [(0, 0, 10, 2), (0, 2, 3, 5), (7, 2, 3, 5), (0, 7, 10, 1)],
        )

    def test_those_without_cells_are_left_out(self):
        self.assertEqual(box_less((0, 0, 4, 4), (2, 2, 9, 9)), [(0, 0, 4, 2), (0, 2, 2, 2)])
        self.assertEqual(box_less((0, 0, 4, 4), (-5, -5, 7, 7)), [(2, 0, 2, 2), (0, 2, 4, 2)])
        self.assertEqual(box_less((0, 0, 4, 4), (1, -5, 1, 50)), [(0, 0, 1, 4), (2, 0, 2, 4)])
        self.assertEqual(box_less((0, 0, 4, 4), (-5, 1, 50, 1)), [(0, 0, 4, 1), (0, 2, 4, 2)])

    def test_within_and_alike(self):
        self.assertEqual(box_less((3, 4, 2, 1), (0, 0, 9, 9)), [])
        self.assertEqual(box_less((3, 4, 2, 1), (3, 4, 2, 1)), [])

    def test_where_they_do_not_meet(self):
        for other in ((2, 0, 2, 2), (-2, 0, 2, 2), (0, 2, 2, 2), (0, -2, 2, 2), (2, 2, 1, 1), (500, 500, 9, 9)):
            self.assertEqual(box_less((0, 0, 2, 2), other), [(0, 0, 2, 2)])

    def test_every_two_boxes_by_their_cells(self):
        for one in ALL:
            ones = set(cells_of(one))
            for other in ALL:
                left = cells_of_all(box_less(one, other))
                self.assertEqual(sorted(left), sorted(ones - set(cells_of(other))))

    def test_told_list_is_the_askers_own(self):
        one = (0, 0, 4, 4)
        for other, due in (((9, 9, 1, 1), [one]), ((0, 0, 4, 1), [(0, 1, 4, 3)]), (one, [])):
            told = box_less(one, other)
            told.append((9, 9, 9, 9))
            told[0] = (8, 8, 8, 8)
            self.assertEqual(box_less(one, other), due)


class FrameOfBoxesTest(unittest.TestCase):
    def test_of_none(self):
        self.assertIsNone(frame_of_boxes([]))

    def test_of_one(self):
        for box in ALL:
            self.assertEqual(frame_of_boxes([box]), box)

    def test_of_several(self):
        self.assertEqual(frame_of_boxes([(0, 0, 2, 2), (5, -3, 1, 1)]), (0, -3, 6, 5))
        self.assertEqual(frame_of_boxes([(0, 0, 9, 9), (3, 3, 1, 1)]), (0, 0, 9, 9))
        self.assertEqual(frame_of_boxes([(3, 3, 1, 1), (0, 0, 9, 9), (3, 3, 1, 1)]), (0, 0, 9, 9))
        self.assertEqual(frame_of_boxes([(-5, -5, 2, 2), (-9, -6, 1, 8), (-7, 1, 3, 2)]), (-9, -6, 6, 9))

    def test_is_that_of_their_cells(self):
        for boxes in some_lists():
            self.assertEqual(frame_of_boxes(boxes), frame_of_cells(cells_of_all(boxes)))

    def test_list_handed_in_stays(self):
        boxes = [(0, 0, 2, 2), (5, -3, 1, 1)]
        frame_of_boxes(boxes)
        self.assertEqual(boxes, [(0, 0, 2, 2), (5, -3, 1, 1)])


class BoxesPartedTest(unittest.TestCase):
    def test_of_none_and_one(self):
        self.assertEqual(boxes_parted([]), [])
        self.assertEqual(boxes_parted([(1, 2, 3, 4)]), [(1, 2, 3, 4)])

    def test_one_twice(self):
        self.assertEqual(boxes_parted([(1, 2, 3, 4), (1, 2, 3, 4)]), [(1, 2, 3, 4)])
        self.assertEqual(
            boxes_parted([(0, 0, 2, 2), (5, 0, 1, 1), (0, 0, 2, 2)]),
            [(0, 0, 2, 2), (5, 0, 1, 1)],
        )

    def test_one_within_another(self):
        self.assertEqual(boxes_parted([(0, 0, 9, 9), (3, 4, 2, 1)]), [(0, 0, 9, 9)])
        self.assertEqual(
            boxes_parted([(1, 1, 1, 1), (0, 0, 3, 3)]),
            [(1, 1, 1, 1), (0, 0, 3, 1), (0, 1, 1, 1), (2, 1, 1, 1), (0, 2, 3, 1)],
        )

    def test_those_that_do_not_meet_stay_in_order(self):
        boxes = [(5, 5, 2, 2), (0, 0, 2, 2), (7, 5, 1, 1), (0, 2, 2, 2)]
        self.assertEqual(boxes_parted(boxes), boxes)

    def test_first_ahead_is_taken_off_first(self):
        # With the second one taken off first, one box (1, 0, 1, 2) would be left.
        self.assertEqual(
            boxes_parted([(0, 0, 1, 1), (0, 0, 1, 2), (0, 0, 2, 2)]),
            [(0, 0, 1, 1), (0, 1, 1, 1), (1, 0, 1, 1), (1, 1, 1, 1)],
        )

    def test_boxes_ahead_are_taken_off_as_handed_in(self):
        # With the told pieces of the second one taken off, two boxes would be left.
        self.assertEqual(
            boxes_parted([(0, 0, 1, 1), (0, 0, 2, 2), (1, 0, 2, 2)]),
            [(0, 0, 1, 1), (1, 0, 1, 1), (0, 1, 2, 1), (2, 0, 1, 2)],
        )

    def test_just_the_cells_each_once(self):
        for boxes in some_lists():
            told = cells_of_all(boxes_parted(boxes))
            self.assertEqual(sorted(told), sorted(set(cells_of_all(boxes))))

    def test_by_the_words_of_the_promise(self):
        for boxes in some_lists():
            due = []
            for place, box in enumerate(boxes):
                pieces = [box]
                for ahead in boxes[:place]:
                    pieces = [rest for piece in pieces for rest in box_less(piece, ahead)]
                due.extend(pieces)
            self.assertEqual(boxes_parted(boxes), due)

    def test_six_hundred_boxes(self):
        columns = [(3 * place - 450, -450, 1, 900) for place in range(300)]
        rows = [(-450, 3 * place - 450, 900, 1) for place in range(300)]
        told = boxes_parted(columns + rows)
        self.assertEqual(told[:300], columns)
        due = [(x + 1, y, 2, 1) for left, y, w, h in rows for x in range(-450, 450, 3)]
        self.assertEqual(told[300:], due)

    def test_lists_are_the_askers_own(self):
        boxes = [(0, 0, 2, 2), (1, 0, 2, 2), (0, 0, 2, 2)]
        told = boxes_parted(boxes)
        self.assertEqual(boxes, [(0, 0, 2, 2), (1, 0, 2, 2), (0, 0, 2, 2)])
        told.append((9, 9, 9, 9))
        told[0] = (8, 8, 8, 8)
        self.assertEqual(boxes_parted(boxes), [(0, 0, 2, 2), (2, 0, 1, 2)])


class KindsTest(unittest.TestCase):
    def test_tuples_of_whole_numbers_in_lists(self):
        boxes = [(1, 1, 1, 1), (0, 0, 3, 3)]
        for told in (box_less(boxes[1], boxes[0]), boxes_parted(boxes)):
            self.assertIs(type(told), list)
            for thing in told:
                self.assertIs(type(thing), tuple)
                self.assertEqual({type(part) for part in thing}, {int})
        self.assertIs(type(box_meet(boxes[0], boxes[1])), tuple)
        self.assertIs(type(frame_of_boxes(boxes)), tuple)


if __name__ == "__main__":
    unittest.main()
