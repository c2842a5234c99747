"""What is promised over the whole program: rows of deeds done, undone and done again, and all that they tell."""

import copy
import unittest
from random import Random

from helping import LEAVES, picture_due, places_due, some_deed, some_scene
from scenemend.asking import shade_at
from scenemend.book import Book
from scenemend.boxes import box_meet
from scenemend.cells import blocks_of, cells_of
from scenemend.deeds import deed_done, touched_by
from scenemend.desk import Desk
from scenemend.drawing import own_sheet, picture_of
from scenemend.errors import SceneError
from scenemend.frames import frame_back, frame_between, frame_played, frames_joined
from scenemend.looking import parts_under
from scenemend.notes import picture_shown, scene_read, scene_shown
from scenemend.plans import plan_done, plan_of
from scenemend.scenes import vet
from scenemend.stage import Stage

FLOOR = (9, 7, (1, 3))


def some_steps(seed, many):
    """A scene, and the deeds that are done on it one behind the other, with the rows ahead and behind each."""
    chance = Random(seed)
    first = some_scene(chance)
    rows = first
    steps = []
    for number in range(many):
        deed = some_deed(chance, rows, number)
        try:
            behind = deed_done(rows, deed)
        except SceneError:
            continue
        steps.append((rows, deed, behind))
        rows = behind
    return first, steps


class RowsOfDeedsTest(unittest.TestCase):
    def test_kept_and_told_is_what_is_drawn_anew(self):
        for seed in range(18000, 18025):
            first, steps = some_steps(seed, 25)
            stage = Stage(first, FLOOR)
            for rows, deed, behind in steps:
                places, blocks, made = stage.do(deed)
                self.assertEqual(stage.picture(), picture_due(behind, FLOOR))
                for row in behind:
                    self.assertEqual(stage.sheet(row[0]), own_sheet(behind, row[0]))
                self.assert_blocks(rows, deed, behind, places, blocks)

    def assert_blocks(self, rows, deed, behind, places, blocks):
        one, other = picture_due(rows, FLOOR), picture_due(behind, FLOOR)
        unlike = [(x, y) for y in range(FLOOR[1]) for x in range(FLOOR[0]) if one[y][x] != other[y][x]]
        self.assertEqual(sorted(cell for box in blocks for cell in cells_of(box)), sorted(unlike))
        for boxes in (places, blocks):
            for number, box in enumerate(boxes):
                self.assertTrue(all(box_meet(box, later) is None for later in boxes[number + 1:]))
        touched = touched_by(rows, deed)
        due = places_due(rows, FLOOR, touched) + places_due(behind, FLOOR, touched)
        in_places = {cell for box in due for cell in cells_of(box)}
        self.assertLessEqual(set(unlike), in_places)
        self.assertEqual({cell for box in places for cell in cells_of(box)}, in_places)

    def test_moves_by_their_plans(self):
        moves = 0
        for seed in range(19000, 19040):
            for rows, deed, behind in some_steps(seed, 25)[1]:
                if deed[0] == "move":
                    plan = plan_of(rows, FLOOR, deed[1], deed[2], deed[3])
                    told = plan_done(plan, picture_of(rows, FLOOR), picture_of(behind, FLOOR))
                    self.assertEqual(told, picture_due(behind, FLOOR))
                    moves += 1
        self.assertGreater(moves, 50)

    def test_the_uppermost_part_at_each_cell(self):
        for seed in range(20000, 20040):
            rows = some_scene(Random(seed))
            for x, y in cells_of((0, 0, 9, 7)):
                under = parts_under(rows, x, y)
                if under:
                    self.assertIn([row[5] for row in rows if row[0] == under[0]][0], LEAVES)
                    hidden = deed_done(rows, ("hide", under[0]))
                    self.assertEqual(parts_under(hidden, x, y), under[1:])
                else:
                    self.assertEqual(shade_at(rows, FLOOR, x, y), FLOOR[2])

    def test_done_undone_and_done_again(self):
        for seed in range(21000, 21020):
            first, steps = some_steps(seed, 20)
            book = Book(first, FLOOR)
            pictures = [picture_due(first, FLOOR)]
            told = []
            for rows, deed, behind in steps:
                told.append(book.do(deed))
                pictures.append(book.picture())
            self.assertEqual(pictures[-1], picture_due(book.rows(), FLOOR))
            for number in reversed(range(len(steps))):
                self.assertEqual(book.undo(), frame_back(told[number]))
                self.assertEqual((book.rows(), book.picture()), (steps[number][0], pictures[number]))
            for number in range(len(steps)):
                self.assertEqual(book.redo(), told[number])
                self.assertEqual((book.rows(), book.picture()), (steps[number][2], pictures[number + 1]))
            self.assertEqual(book.film(), pictures + pictures[-2::-1] + pictures[1:])
            self.assert_frames_lead(told, pictures)

    def assert_frames_lead(self, told, pictures):
        joined = []
        for frame in told:
            joined = frames_joined(joined, frame)
        self.assertEqual(joined, frame_between(pictures[0], pictures[-1]))
        self.assertEqual(frame_played(joined, pictures[0]), pictures[-1])
        self.assertEqual(frame_played(frame_back(joined), pictures[-1]), pictures[0])

    def test_a_desk_tells_what_a_book_tells(self):
        for seed in range(22000, 22015):
            first, steps = some_steps(seed, 20)
            desk = Desk()
            desk.say("scene 9 7 1/3\n" + scene_shown(first))
            book = Book(first, FLOOR)
            for rows, deed, behind in steps:
                if deed[0] == "change":
                    break
                words = scene_shown([deed[1]]) if deed[0] == "put" else " ".join(str(thing) for thing in deed[1:])
                cells = [(x + i, y) for x, y, olds, news in book.do(deed) for i in range(len(olds))]
                due = " ".join(",".join(str(number) for number in box) for box in blocks_of(cells))
                self.assertEqual(desk.say(deed[0] + " " + words), due)
                self.assertEqual(desk.say("picture"), picture_shown(book.picture()))
                self.assertEqual(scene_read(desk.say("text")), book.rows())
            self.assertEqual(desk.say("films"), str(len(book.film())))


class AnswersTest(unittest.TestCase):
    def test_told_and_handed_in_again(self):
        first, steps = some_steps(23000, 30)
        stage = Stage(first, FLOOR)
        for rows, deed, behind in steps:
            stage.do(deed)
            told = stage.rows()
            self.assertIs(vet(told), True)
            again = Stage(told, stage.floor())
            self.assertEqual(again.picture(), stage.picture())
            self.assertEqual(scene_read(scene_shown(told)), told)

    def test_the_same_each_time(self):
        first, steps = some_steps(24000, 20)
        answers = []
        for count in range(2):
            book = Book(copy.deepcopy(first), FLOOR)
            told = [book.do(deed) for rows, deed, behind in steps]
            answers.append((told, book.rows(), book.film()))
        self.assertEqual(answers[0], answers[1])


if __name__ == "__main__":
    unittest.main()
