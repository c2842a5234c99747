"""Spots (ink, cover), the ink weighted by the cover, laid over one another."""

from scenemend.fractions import minus, plus, times


def spot_over(one, other):
    through = minus((1, 1), one[1])
    ink = plus(one[0], times(other[0], through))
    cover = plus(one[1], times(other[1], through))
    return (ink, cover)
