"""Exact fractions: tuples (top, bottom) in lowest terms, the bottom from 1 on."""


def is_whole(thing, least, most):
    # To Python the truths are ints too, but they are no whole numbers here.
    return isinstance(thing, int) and not isinstance(thing, bool) and least <= thing <= most


def common_divisor(one, other):
    while other != 0:
        rest = one % other
        one = other
        other = rest
    return abs(one)


def common_multiple(numbers):
    multiple = 1
    for number in numbers:
        multiple = multiple * (number // common_divisor(multiple, number))
    return multiple


def share(top, bottom):
    divisor = common_divisor(top, bottom)
    if bottom < 0:
        # Only the top may be below nought, so the sign goes out with the divisor.
        divisor = -divisor
    return (top // divisor, bottom // divisor)


def whole(number):
    return (number, 1)


def plus(one, other):
    return share(one[0] * other[1] + other[0] * one[1], one[1] * other[1])


def minus(one, other):
    return share(one[0] * other[1] - other[0] * one[1], one[1] * other[1])


def total(fractions):
    # Brought to lowest terms once, at the end: behind each of many fractions it would take far longer.
    bottom = common_multiple([fraction[1] for fraction in fractions])
    return share(sum([fraction[0] * (bottom // fraction[1]) for fraction in fractions]), bottom)


def times(one, other):
    return share(one[0] * other[0], one[1] * other[1])


def over(one, other):
    return share(one[0] * other[1], one[1] * other[0])


def below(one, other):
    return one[0] * other[1] < other[0] * one[1]


def greater(one, other):
    return other if below(one, other) else one


def lesser(one, other):
    return other if below(other, one) else one
