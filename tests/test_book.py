import copy
import unittest
from random import Random

from helping import HALF, NONE, ONE, part, plate, some_deed, some_floor, some_scene
from scenemend.book import Book
from scenemend.deeds import deed_done
from scenemend.drawing import own_sheet, picture_of
from scenemend.errors import NoHolder, NoName, NoPart, NoStep, SceneError, TooMany, Twice, WrongKind
from scenemend.frames import frame_back, frame_between, frame_played

FLOOR = (6, 4, (1, 4))
ROWS = [part("g", "glass", HALF, x=1), plate("a", 2, 2, holder="g"), plate("b", 3, 1, NONE)]
MOVE = ("move", "a", 1, 1)
HIDE = ("hide", "b")


class BookCase(unittest.TestCase):
    def assert_book(self, book, rows, pictures, floor=FLOOR):
        """The book stands as drawn anew, and its film has these pictures."""
        self.assertEqual(book.rows(), rows)
        self.assertEqual(book.picture(), picture_of(rows, floor))
        for row in rows:
            self.assertEqual(book.sheet(row[0]), own_sheet(rows, row[0]))
        with self.assertRaises(NoName):
            book.sheet("nobody")
        self.assertEqual(book.film(), pictures)

    def assert_no_step(self, step):
        with self.assertRaises(NoStep):
            step()


class StepsTest(BookCase):
    def test_new(self):
        for rows in ([], ROWS):
            book = Book(rows, FLOOR)
            self.assert_book(book, rows, [picture_of(rows, FLOOR)])
            self.assert_no_step(book.undo)
            self.assert_no_step(book.redo)
            self.assert_book(book, rows, [picture_of(rows, FLOOR)])

    def test_refused_as_vetted(self):
        for rows, refusal in (
            ([plate("A")], NoPart), ([plate("a"), plate("a")], Twice), ([plate("a", holder="z")], NoHolder),
            ([plate("p" + str(count)) for count in range(25)], TooMany),
        ):
            with self.assertRaises(refusal):
                Book(rows, FLOOR)

    def test_do_undo_redo(self):
        moved = deed_done(ROWS, MOVE)
        one, other = picture_of(ROWS, FLOOR), picture_of(moved, FLOOR)
        frame = frame_between(one, other)
        book = Book(ROWS, FLOOR)
        self.assertEqual(book.do(MOVE), frame)
        self.assert_book(book, moved, [one, other])
        self.assertEqual(book.undo(), frame_back(frame))
        self.assert_book(book, ROWS, [one, other, one])
        self.assert_no_step(book.undo)
        self.assertEqual(book.redo(), frame)
        self.assert_book(book, moved, [one, other, one, other])
        self.assert_no_step(book.redo)
        self.assertEqual(book.undo(), frame_back(frame))
        self.assert_book(book, ROWS, [one, other, one, other, one])

    def test_the_last_one_not_undone_yet_and_the_last_one_undone(self):
        states = [ROWS]
        book = Book(ROWS, FLOOR)
        for deed in (MOVE, HIDE, ("take", "g"), ("put", plate("g", x=2, y=2))):
            book.do(deed)
            states.append(deed_done(states[-1], deed))
        for rows in states[-2::-1]:
            book.undo()
            self.assertEqual(book.rows(), rows)
        for rows in states[1:3]:
            book.redo()
            self.assertEqual(book.rows(), rows)
        book.undo()
        self.assertEqual(book.rows(), states[1])
        for rows in states[2:]:
            book.redo()
            self.assertEqual(book.rows(), rows)
        self.assert_no_step(book.redo)

    def test_behind_a_deed_none_can_be_done_again(self):
        book = Book(ROWS, FLOOR)
        book.do(MOVE)
        book.do(("take", "b"))
        book.undo()
        book.undo()
        book.do(HIDE)
        self.assert_no_step(book.redo)
        hidden = deed_done(ROWS, HIDE)
        self.assertEqual(book.rows(), hidden)
        book.undo()
        self.assertEqual(book.rows(), ROWS)
        self.assert_no_step(book.undo)
        book.redo()
        self.assertEqual(book.rows(), hidden)

    def test_a_deed_that_changes_nothing_is_a_step_too(self):
        book = Book(ROWS, FLOOR)
        self.assertEqual(book.do(("show", "a")), [])
        self.assertEqual(book.undo(), [])
        self.assertEqual(book.redo(), [])
        self.assert_book(book, ROWS, [picture_of(ROWS, FLOOR)] * 4)

    def test_a_refused_deed_changes_nothing(self):
        book = Book(ROWS, FLOOR)
        book.do(MOVE)
        book.undo()
        pictures = book.film()
        for deed, refusal in (
            (("move", "z", 0, 0), NoName), (("turn", "a", 1), WrongKind), (("size", "a", 0, 1), NoPart),
            (("put", plate("a")), Twice), (("put", plate("z", holder="a")), NoHolder),
        ):
            with self.assertRaises(refusal):
                book.do(deed)
            self.assert_book(book, ROWS, pictures)
        # What was undone ahead can still be done again.
        book.redo()
        self.assertEqual(book.rows(), deed_done(ROWS, MOVE))


class RowsOfStepsTest(BookCase):
    def test_some_steps(self):
        for seed in range(15000, 15030):
            chance = Random(seed)
            states = [some_scene(chance)]
            floor = some_floor(chance)
            book = Book(states[0], floor)
            pictures = [picture_of(states[0], floor)]
            at = 0
            for number in range(25):
                step = chance.choice(("do", "do", "undo", "redo"))
                kept = at
                try:
                    if step == "do":
                        deed = some_deed(chance, states[at], number)
                        told = book.do(deed)
                        states = states[:at + 1] + [deed_done(states[at], deed)]
                        at += 1
                    elif step == "undo":
                        told = book.undo()
                        at -= 1
                    else:
                        told = book.redo()
                        at += 1
                except NoStep:
                    self.assertEqual(at, 0 if step == "undo" else len(states) - 1)
                except SceneError as refusal:
                    with self.assertRaises(type(refusal)):
                        deed_done(states[at], deed)
                else:
                    self.assertTrue(0 <= at < len(states))
                    self.assertNotEqual(at, kept)
                    pictures.append(picture_of(states[at], floor))
                    self.assertEqual(told, frame_between(pictures[-2], pictures[-1]))
                self.assert_book(book, states[at], pictures, floor)

    def test_frames_told_lead_from_the_first_picture_to_the_last_and_back(self):
        chance = Random(16000)
        rows = some_scene(chance)
        floor = (8, 6, HALF)
        book = Book(rows, floor)
        frames = []
        for number in range(60):
            steps = (book.undo, book.redo, lambda: book.do(some_deed(chance, book.rows(), number)))
            try:
                frames.append(chance.choice(steps)())
            except SceneError:
                frames.append([])
        picture = picture_of(rows, floor)
        for frame in frames:
            picture = frame_played(frame, picture)
        self.assertEqual(picture, book.picture())
        for frame in reversed(frames):
            picture = frame_played(frame_back(frame), picture)
        self.assertEqual(picture, book.film()[0])
        self.assertGreater(sum(frame != [] for frame in frames), 5)

    def test_two_books_beside_one_another(self):
        one, other = Book(ROWS, FLOOR), Book(ROWS, FLOOR)
        one.do(MOVE)
        self.assert_no_step(other.undo)
        other.do(HIDE)
        one.undo()
        self.assertEqual(one.rows(), ROWS)
        self.assertEqual(other.rows(), deed_done(ROWS, HIDE))


class ListsTest(BookCase):
    def test_rows_handed_in_stay_and_may_be_changed_behind(self):
        rows = copy.deepcopy(ROWS)
        book = Book(rows, FLOOR)
        book.do(MOVE)
        self.assertEqual(rows, ROWS)
        rows.clear()
        book.undo()
        self.assertEqual(book.rows(), ROWS)

    def test_told_lists_are_the_askers_own(self):
        book = Book(ROWS, FLOOR)
        for step in (lambda: book.do(MOVE), book.undo, book.redo, book.undo):
            told = step()
            for thing in told:
                thing[2].clear()
                thing[3].clear()
            told.clear()
            book.rows().clear()
            book.picture()[0].clear()
            book.sheet("a").clear()
            film = book.film()
            for picture in film:
                picture[0].clear()
                picture.clear()
            film.clear()
        one, other = picture_of(ROWS, FLOOR), picture_of(deed_done(ROWS, MOVE), FLOOR)
        self.assert_book(book, ROWS, [one, other, one, other, one])


if __name__ == "__main__":
    unittest.main()
