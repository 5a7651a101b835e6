"""Fractions: tuples (top, bottom) of whole numbers in lowest terms, the bottom from 1 on."""

from landroll.cells import is_number
from landroll.errors import BadFraction

NONE = (0, 1)
ALL = (1, 1)


def common_divisor(one, other):
    found = abs(one)
    rest = abs(other)
    while rest != 0:
        behind = found % rest
        found = rest
        rest = behind
    return found


# The divisor takes over the sign of the bottom, so that the bottom comes out above 0.
def in_lowest_terms(top, bottom):
    divisor = common_divisor(top, bottom)
    if bottom < 0:
        divisor = -divisor
    return (top // divisor, bottom // divisor)


def fraction(top, bottom):
    if not is_number(top) or not is_number(bottom):
        raise BadFraction("a fraction is made of two whole numbers")
    if bottom == 0:
        raise BadFraction("nothing can be parted by 0")
    return in_lowest_terms(top, bottom)


def plus(one, other):
    return in_lowest_terms(one[0] * other[1] + other[0] * one[1], one[1] * other[1])


def minus(one, other):
    return in_lowest_terms(one[0] * other[1] - other[0] * one[1], one[1] * other[1])


def product(one, other):
    return in_lowest_terms(one[0] * other[0], one[1] * other[1])


# The second isn't nought.
def quotient(one, other):
    return in_lowest_terms(one[0] * other[1], one[1] * other[0])


# Both bottoms are above 0, so the sign holds when both sides are multiplied by them.
def under(one, other):
    return one[0] * other[1] < other[0] * one[1]


def lesser(one, other):
    if under(other, one):
        return other
    return one


def sum_of(some):
    total = NONE
    for part in some:
        total = plus(total, part)
    return total
