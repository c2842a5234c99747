"""A film: a first picture, and a frame for each further one."""

from scenemend.changed import picture_copied
from scenemend.errors import NoStep, Unlike
from scenemend.frames import frame_between, frame_played


def size_of(picture):
    return [len(row) for row in picture]


def frame_copied(frame):
    return [(x, y, list(olds), list(news)) for x, y, olds, news in frame]


class Film:
    def __init__(self, picture):
        self.first = picture_copied(picture)
        self.last = picture_copied(picture)
        self.kept_frames = []

    def add(self, picture):
        if size_of(picture) != size_of(self.last):
            raise Unlike("a film's pictures are all of one size")
        self.kept_frames.append(frame_between(self.last, picture))
        self.last = picture_copied(picture)

    def count(self):
        return len(self.kept_frames) + 1

    def at(self, number):
        if not 0 <= number < self.count():
            raise NoStep("the film has no picture of this number")
        picture = picture_copied(self.first)
        for frame in self.kept_frames[:number]:
            picture = frame_played(frame, picture)
        return picture

    def frames(self):
        return [frame_copied(frame) for frame in self.kept_frames]

    def pictures(self):
        picture = picture_copied(self.first)
        told = [picture]
        for frame in self.kept_frames:
            picture = frame_played(frame, picture)
            told.append(picture)
        return told
