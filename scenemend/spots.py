"""Spots (ink, cover), the ink weighted by the cover, laid over one another."""

from scenemend.fractions import minus, plus, times


def spot_over(one, other):
    through = minus((1, 1), one[1])
    ink = plus(one[0], times(other[0], through))
    cover = plus(one[1], times(other[1], through))
    return (ink, cover)


def spot_laid(one, other):
    # None stands for a cell without a spot: over it, or beneath it, a spot stays.
    if one is None:
        return other
    if other is None:
        return one
    return spot_over(one, other)


def spot_shared(spot, share):
    # A spot has a cover above 0, so nothing is left by the share 0.
    if spot is None or share == (0, 1):
        return None
    return (times(spot[0], share), times(spot[1], share))


def shade_on(spot, ground):
    if spot is None:
        return ground
    return plus(spot[0], times(ground, minus((1, 1), spot[1])))
