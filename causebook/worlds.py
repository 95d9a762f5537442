"""Worlds: lists with a value for each of some sizes, in order, and views of them."""


def count_of(sizes):
    found = 1
    for size in sizes:
        found = found * size
    return found


def worlds(sizes):
    return worlds_by(sizes, [None] * len(sizes))


def rank(sizes, world):
    place = 0
    for size, value in zip(sizes, world):
        place = place * size + value
    return place


def world_at(sizes, place):
    # The last value changes from each world to the next, so the values come off the place from the last on.
    backwards = []
    rest = place
    for size in reversed(sizes):
        backwards.append(rest % size)
        rest = rest // size
    return list(reversed(backwards))


def fits(value, known):
    # Not "known or ..": 0 is a value that can be known.
    return known is None or value == known


def agrees(world, view):
    for value, known in zip(world, view):
        if not fits(value, known):
            return False
    return True


def worlds_by(sizes, view):
    # Grown value by value, so that no world is made that the view rules out.
    found = [[]]
    for size, known in zip(sizes, view):
        found = grown(found, [value for value in range(size) if fits(value, known)])
    return found


def grown(heads, choices):
    found = []
    for head in heads:
        for value in choices:
            found.append(head + [value])
    return found
