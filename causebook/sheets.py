"""Sheets: tuples (things, shares) with a share for each world of a rising list of things."""

from causebook.books import chance_at, picked
from causebook.shares import times, total
from causebook.worlds import rank, worlds


def leaf_things(causes, k, view):
    return [other for other in sorted(set(causes[k] + [k])) if view[other] is None]


def filled(view, things, values):
    found = list(view)
    for k, value in zip(things, values):
        found[k] = value
    return found


def views_of(sizes, view, things):
    # The view filled with each world of the things, in their order.
    return [filled(view, things, values) for values in worlds(picked(sizes, things))]


def leaf(book, k, view):
    things = leaf_things(book[1], k, view)
    return (things, [chance_at(book, k, whole) for whole in views_of(book[0], view, things)])


def share_at(sizes, sheet, view):
    things = sheet[0]
    return sheet[1][rank(picked(sizes, things), picked(view, things))]


def joined(sizes, one, other):
    things = sorted(set(one[0]) | set(other[0]))
    found = []
    for view in views_of(sizes, [None] * len(sizes), things):
        found.append(times(share_at(sizes, one, view), share_at(sizes, other, view)))
    return (things, found)


def left_out(sizes, sheet, k):
    return drawn_in(sizes, sheet, k, total)


def drawn_in(sizes, sheet, k, one_of):
    # One share in the place of those for all values of the thing: their total, or whatever else is asked for.
    things = [other for other in sheet[0] if other != k]
    found = []
    for view in views_of(sizes, [None] * len(sizes), things):
        found.append(one_of([share_at(sizes, sheet, whole) for whole in views_of(sizes, view, [k])]))
    return (things, found)
