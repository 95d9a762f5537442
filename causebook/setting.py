"""Setting and seeing: the chance of a value by setting a thing, and by seeing it over a list of things."""

from causebook.books import set_to
from causebook.errors import NoGround
from causebook.shares import over, plus, times
from causebook.sheets import filled, views_of
from causebook.sums import chance


def by_setting(book, x, a, y, b):
    nothing = [None] * len(book[0])
    return chance(set_to(book, x, a), filled(nothing, [y], [b]))


def by_seeing(book, x, a, y, b, some):
    nothing = [None] * len(book[0])
    found = (0, 1)
    for view in views_of(book[0], nothing, some):
        weight = chance(book, view)
        if weight[0] != 0:
            found = plus(found, times(seen_chance(book, filled(view, [x], [a]), y, b), weight))
    return found


def seen_chance(book, view, y, b):
    ground = chance(book, view)
    if ground[0] == 0:
        raise NoGround("the list can have values with which x never has its value")
    return over(chance(book, filled(view, [y], [b])), ground)
