"""A book: a stage, what was done on it, and the film of its pictures."""

from scenemend.errors import NoStep
from scenemend.film import Film
from scenemend.frames import frame_between
from scenemend.stage import Stage


class Book:
    # What stood ahead of each deed that is done, and behind each one that was undone, the last one last.

    def __init__(self, rows, floor):
        self.stage = Stage(rows, floor)
        self.stood_ahead = []
        self.stood_behind = []
        self.kept_film = Film(self.stage.picture())

    def rows(self):
        return self.stage.rows()

    def picture(self):
        return self.stage.picture()

    def sheet(self, name):
        return self.stage.sheet(name)

    def film(self):
        return self.kept_film.pictures()

    def film_count(self):
        return self.kept_film.count()

    def filmed(self, picture):
        # The picture handed in is the one ahead of the step, whose own one stands by now.
        standing = self.stage.picture()
        self.kept_film.add(standing)
        return frame_between(picture, standing)

    def do(self, deed):
        picture = self.stage.picture()
        ahead = self.stage.standing()
        self.stage.do(deed)
        self.stood_ahead.append(ahead)
        self.stood_behind = []
        return self.filmed(picture)

    def undo(self):
        if len(self.stood_ahead) == 0:
            raise NoStep("there is no deed to undo")
        picture = self.stage.picture()
        self.stood_behind.append(self.stage.standing())
        self.stage.stand(self.stood_ahead.pop())
        return self.filmed(picture)

    def redo(self):
        if len(self.stood_behind) == 0:
            raise NoStep("there is no deed to do again")
        picture = self.stage.picture()
        self.stood_ahead.append(self.stage.standing())
        self.stage.stand(self.stood_behind.pop())
        return self.filmed(picture)
