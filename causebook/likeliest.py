"""The likeliest world that agrees with a view, and its chance."""

from causebook.errors import NoGround
from causebook.shares import under
from causebook.sheets import drawn_in, filled
from causebook.sums import by_order, unknown_things


def greatest(shares):
    found = shares[0]
    for part in shares:
        if under(found, part):
            found = part
    return found


def topped(sizes, sheet, k):
    return drawn_in(sizes, sheet, k, greatest)


def best_chance(book, view, order=None):
    return by_order(book, view, order, topped)


def tops(book, k, view):
    return [top_at(book, k, value, view) for value in range(book[0][k])]


def top_at(book, k, value, view):
    if view[k] is not None and view[k] != value:
        return (0, 1)
    return best_chance(book, filled(view, [k], [value]))


def likeliest(book, view):
    best = best_chance(book, view)
    if best[0] == 0:
        raise NoGround("every world that agrees with the view has the chance 0")
    world = list(view)
    for k in unknown_things(view):
        # The least value that still comes to the best chance, thing by thing: so the first world in order.
        world[k] = tops(book, k, world).index(best)
    return (world, best)
