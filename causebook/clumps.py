"""Hidden and seen things: links, clumps, and what is above within a list."""

from causebook.shapes import effects, gathered, meet


def is_hidden(causes, hidden):
    return all([len(causes[k]) == 0 and len(effects(causes, k)) == 2 for k in hidden])


def seen_things(causes, hidden):
    return [k for k in range(len(causes)) if k not in hidden]


def linked_to(causes, hidden, k, within):
    over_k = [c for c in causes[k] if c in hidden]
    return [other for other in within if meet(causes[other], over_k)]


def clumps(causes, hidden, some):
    found = []
    left = list(some)
    while len(left) > 0:
        clump = gathered([left[0]], lambda k: linked_to(causes, hidden, k, some))
        left = [k for k in left if k not in clump]
        found.append(clump)
    return found


def above_in(causes, some, within):
    return gathered(some, lambda k: [c for c in causes[k] if c in within])
