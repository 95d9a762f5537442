"""Twins: two books that agree on all that is seen and part on what comes of setting."""

from causebook.books import picked
from causebook.clumps import clumps
from causebook.recipes import counting, stuck
from causebook.shapes import effects, nearer, steps_down
from causebook.worlds import worlds

HIDDEN_SIZE = 2
SEEN_SIZE = 4


def tree(causes, hidden, small, great):
    taken = []
    for h in both_in(causes, hidden, small) + both_in(causes, hidden, great):
        # With those taken as the hidden things, a clump is what they join.
        if effects(causes, h) not in [ends_in(causes, h, clump) for clump in clumps(causes, taken, great)]:
            taken.append(h)
    return sorted(taken)


def ends_in(causes, h, some):
    return [k for k in effects(causes, h) if k in some]


def both_in(causes, hidden, some):
    return [h for h in hidden if ends_in(causes, h, some) == effects(causes, h)]


def feeds(causes, small, great):
    steps = steps_down(causes, small, great)
    return [fed_by(causes, small, steps, k) for k in range(len(causes))]


def fed_by(causes, small, steps, k):
    if k in small:
        inner = [e for e in effects(causes, k) if e in small]
        return inner[0] if len(inner) > 0 else None
    return nearer(causes, steps, k) if k in steps else None


def roots_of(fed, small):
    return [k for k in small if fed[k] is None]


def relays(causes, hidden, x, y):
    steps = steps_down(causes, [y], counting(causes, hidden, x, y))
    return [nearer(causes, steps, k) if k in steps and k != y else None for k in range(len(causes))]


def twins(causes, hidden, x, y):
    found = stuck(causes, hidden, x, y)
    if found is None:
        return None
    small = found[0]
    great = found[1]
    sizes = [HIDDEN_SIZE if k in hidden else SEEN_SIZE for k in range(len(causes))]
    fed = feeds(causes, small, great)
    grown = tree(causes, hidden, small, great)
    main = [main_sources(causes, fed, grown, great, k) for k in range(len(causes))]
    other = [main_sources(causes, fed, both_in(causes, grown, small), small, k) if k in small else main[k]
             for k in range(len(causes))]
    roots = roots_of(fed, small)
    passed = relays(causes, hidden, x, y)
    sure = [k for k in great if k != roots[0]]
    return (sizes, twin_tables(sizes, causes, hidden, main, passed, roots, sure),
            twin_tables(sizes, causes, hidden, other, passed, roots, sure))


def main_sources(causes, fed, grown, within, k):
    # Those whose bits come to the main bit due to k: of the things within the list, and of the hidden ones taken.
    if k not in within:
        return []
    return [c for c in causes[k] if c in grown or c in within and fed[c] == k]


def twin_tables(sizes, causes, hidden, main, passed, roots, sure):
    found = []
    for k, own in enumerate(causes):
        if k in hidden:
            found.append([[1, 1]])
        else:
            relayed = [c for c in own if passed[c] == k]
            rooted = [c for c in relayed if c in roots]
            found.append(twin_table(sizes, own, main[k], relayed, rooted, k in sure))
    return found


def twin_table(sizes, own, main, relayed, rooted, is_sure):
    found = []
    for world in worlds(picked(sizes, own)):
        mains = dict([(c, main_bit(sizes[c], value)) for c, value in zip(own, world)])
        parts = dict([(c, value % 2) for c, value in zip(own, world)])
        main_due = sum(picked(mains, main)) % 2
        relay_due = (sum(picked(parts, relayed)) + sum(picked(mains, rooted))) % 2
        found.append(twin_row(bit_weights(main_due, is_sure), bit_weights(relay_due, False)))
    return found


def main_bit(size, value):
    # A hidden value is a bit itself; a seen one is 2 times its main bit plus its relay bit.
    return value if size == HIDDEN_SIZE else value // 2


def bit_weights(due, is_sure):
    least = 0 if is_sure else 1
    most = 1 if is_sure else 3
    return [most, least] if due == 0 else [least, most]


def twin_row(mains, parts):
    return [mains[value // 2] * parts[value % 2] for value in range(SEEN_SIZE)]
