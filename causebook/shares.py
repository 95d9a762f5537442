"""Shares: exact fractions, as tuples (top, bottom) in lowest terms with a bottom from 1 on."""

from causebook.errors import NoShare


def is_whole(thing):
    # Python counts True and False among the ints; here they are no whole numbers.
    return isinstance(thing, int) and not isinstance(thing, bool)


def common_divisor(number, bottom):
    # With a bottom from 1 on every remainder is from 0 on, so what is told is above 0 for any number.
    greater = number
    less = bottom
    while less != 0:
        rest = greater % less
        greater = less
        less = rest
    return greater


def share(top, bottom):
    if not is_whole(top) or not is_whole(bottom):
        raise NoShare("a share is made of two whole numbers")
    if bottom == 0:
        raise NoShare("the bottom of a share is not 0")
    if bottom < 0:
        return share(-top, -bottom)
    divisor = common_divisor(top, bottom)
    return (top // divisor, bottom // divisor)


# Sums and products divide before they multiply: what two shares in lowest terms can still have in common
# is found among the smaller numbers, and long sums of long numbers stay quick.


def plus(one, other):
    divisor = common_divisor(one[1], other[1])
    top = one[0] * (other[1] // divisor) + other[0] * (one[1] // divisor)
    # Only a divisor of both bottoms can divide this top and the bottoms' least common multiple.
    rest = common_divisor(top, divisor)
    return (top // rest, (one[1] // divisor) * (other[1] // rest))


def minus(one, other):
    return plus(one, (-other[0], other[1]))


def times(one, other):
    # A top and its own bottom have nothing in common, so only the crosswise pairs can.
    first = common_divisor(one[0], other[1])
    second = common_divisor(other[0], one[1])
    return ((one[0] // first) * (other[0] // second), (one[1] // second) * (other[1] // first))


def over(one, other):
    if other[0] == 0:
        raise NoShare("no share is over one that is 0")
    if other[0] < 0:
        return times(one, (-other[1], -other[0]))
    return times(one, (other[1], other[0]))


def total(shares):
    found = (0, 1)
    for part in shares:
        found = plus(found, part)
    return found


def under(one, other):
    return one[0] * other[1] < other[0] * one[1]
