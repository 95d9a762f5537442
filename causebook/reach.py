"""The reach of a thing where some are known: which things are barred from which, and by what lists."""

from causebook.shapes import above, effects, gathered

# How one came to a thing.
AGAINST = 0
ALONG = 1


def steps_from(causes, known, pair):
    k = pair[0]
    way = pair[1]
    ups = [(c, AGAINST) for c in causes[k]]
    downs = [(e, ALONG) for e in effects(causes, k)]
    if k in known:
        return ups if way == ALONG else []
    return downs if way == ALONG else ups + downs


def reach(causes, x, known):
    return gathered([(x, AGAINST)], lambda pair: steps_from(causes, known, pair))


def is_closed(causes, known, pairs):
    each = sorted(set(pairs))
    for pair in each:
        if not all([step in each for step in steps_from(causes, known, pair)]):
            return False
    return True


def reached_things(causes, x, known):
    return [pair[0] for pair in reach(causes, x, known)]


def barred(causes, x, y, known):
    return y not in reached_things(causes, x, known)


def silent(causes, ones, others, known):
    for x in ones:
        reached = reached_things(causes, x, known)
        if any([y in reached for y in others]):
            return False
    return True


def parting(causes, x, y, among):
    found = [k for k in above(causes, [x, y]) if k in among and k != x and k != y]
    return found if barred(causes, x, y, found) else None


def least_parting(causes, x, y, known):
    return made_least(known, lambda some: barred(causes, x, y, some))


def made_least(some, holds):
    if not holds(some):
        return None
    before = []
    left = sorted(some)
    while left != before:
        before = left
        left = one_round(before, holds)
    return left


def one_round(some, holds):
    left = some
    for k in reversed(some):
        rest = [other for other in left if other != k]
        if holds(rest):
            left = rest
    return left
