"""Exact fractions: tuples (top, bottom) of whole numbers in lowest terms."""

from scenemend.errors import NoShare


def is_whole(thing):
    # Python counts True and False as ints; here they are no whole numbers.
    return isinstance(thing, int) and not isinstance(thing, bool)


def common_divisor(one, other):
    big = abs(one)
    small = abs(other)
    while small != 0:
        rest = big % small
        big = small
        small = rest
    return big


def fraction(top, bottom):
    if bottom == 0:
        raise NoShare("the bottom of a fraction is other than 0")
    divisor = common_divisor(top, bottom)
    # A divisor with the bottom's sign leaves the bottom above 0.
    if bottom < 0:
        divisor = -divisor
    return (top // divisor, bottom // divisor)


def plus(one, other):
    return fraction(one[0] * other[1] + other[0] * one[1], one[1] * other[1])


def minus(one, other):
    return fraction(one[0] * other[1] - other[0] * one[1], one[1] * other[1])


def times(one, other):
    return fraction(one[0] * other[0], one[1] * other[1])


def less(one, other):
    # Both bottoms are above 0, so multiplying by them keeps the order.
    return one[0] * other[1] < other[0] * one[1]


def is_share(thing):
    if not isinstance(thing, tuple) or len(thing) != 2:
        return False
    top = thing[0]
    bottom = thing[1]
    if not is_whole(top) or not is_whole(bottom):
        return False
    return bottom >= 1 and 0 <= top <= bottom and common_divisor(top, bottom) == 1
