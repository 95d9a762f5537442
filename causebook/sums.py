"""Sums: the chance of a view by leaving out one thing after another, and chances where something is known."""

from causebook.errors import NoGround, NoOrder
from causebook.shares import over, times
from causebook.sheets import filled, joined, leaf, leaf_things, left_out


def unknown_things(view):
    return [k for k, value in enumerate(view) if value is None]


def order_for(view, order):
    if order is None:
        return unknown_things(view)
    if sorted(order) != unknown_things(view):
        raise NoOrder("an order has each thing that the view doesn't know, once, and no other")
    return list(order)


def chance(book, view, order=None):
    return by_order(book, view, order, left_out)


def by_order(book, view, order, leave):
    turns = order_for(view, order)
    sheets = [leaf(book, k, view) for k in range(len(view))]
    for k in turns:
        sheets = with_one_left(book[0], sheets, k, leave)
    found = (1, 1)
    for sheet in sheets:
        found = times(found, sheet[1][0])
    return found


def with_one_left(sizes, sheets, k, leave):
    having = [sheet for sheet in sheets if k in sheet[0]]
    others = [sheet for sheet in sheets if k not in sheet[0]]
    return others + [leave(sizes, all_joined(sizes, having), k)]


def all_joined(sizes, sheets):
    found = ([], [(1, 1)])
    for sheet in sheets:
        found = joined(sizes, found, sheet)
    return found


def widths(book, view, order=None):
    turns = order_for(view, order)
    piles = [leaf_things(book[1], k, view) for k in range(len(view))]
    found = []
    for k in turns:
        width = width_of([things for things in piles if k in things], k)
        piles = [things for things in piles if k not in things] + [width]
        found.append(width)
    return found


def width_of(piles, k):
    found = []
    for things in piles:
        found = sorted(set(found) | set(things))
    return [other for other in found if other != k]


def chance_given(book, view, known):
    return over_ground(book, view, known, ground_of(book, known))


def ground_of(book, known):
    found = chance(book, known)
    if found[0] == 0:
        raise NoGround("what is known has the chance 0")
    return found


def over_ground(book, view, known, ground):
    if unlike(view, known):
        return (0, 1)
    return over(chance(book, both_of(view, known)), ground)


def unlike(view, known):
    for one, other in zip(view, known):
        if one is not None and other is not None and one != other:
            return True
    return False


def both_of(view, known):
    return [other if one is None else one for one, other in zip(view, known)]


def spread(book, k, known):
    ground = ground_of(book, known)
    nothing = [None] * len(known)
    found = []
    for value in range(book[0][k]):
        found.append(over_ground(book, filled(nothing, [k], [value]), known, ground))
    return found
