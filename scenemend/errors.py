"""The refusals: one class for each, all of them taken by SceneError."""


class SceneError(ValueError):
    pass


class NoShare(SceneError):
    pass


class NoPart(SceneError):
    pass


class Twice(SceneError):
    pass


class NoHolder(SceneError):
    pass


class TooDeep(SceneError):
    pass


class Nested(SceneError):
    pass


class TooMany(SceneError):
    pass


class NoName(SceneError):
    pass


class WrongKind(SceneError):
    pass


class Unlike(SceneError):
    pass


class NoStep(SceneError):
    pass


class NoText(SceneError):
    pass


class NoRow(SceneError):
    pass
