"""Shapes: lists with, for each thing, the list of its causes; their order, and the ways of their arrows."""

from causebook.errors import Ring


def meet(some, others):
    return len(set(some) & set(others)) > 0


def order_of(causes):
    found = []
    left = list(range(len(causes)))
    while len(left) > 0:
        ready = [k for k in left if not meet(causes[k], left)]
        if len(ready) == 0:
            raise Ring(ring_among(causes, left))
        found.append(ready[0])
        left.remove(ready[0])
    return found


def ring_among(causes, left):
    # Each thing left waits for a cause that is left too, so going on from cause to cause comes round.
    trail = [left[0]]
    while True:
        waited_for = [c for c in causes[trail[-1]] if c in left]
        if waited_for[0] in trail:
            round_trip = trail[trail.index(waited_for[0]):]
            return from_the_least(list(reversed(round_trip)))
        trail.append(waited_for[0])


def from_the_least(ring):
    place = ring.index(min(ring))
    return ring[place:] + ring[:place]


def effects(causes, k):
    return [other for other in range(len(causes)) if k in causes[other]]


def above(causes, some):
    return gathered(some, lambda k: causes[k])


def beneath(causes, some):
    return gathered(some, lambda k: effects(causes, k))


def gathered(some, nexts):
    found = []
    waiting = list(some)
    while len(waiting) > 0:
        k = waiting.pop()
        if k not in found:
            found.append(k)
            waiting.extend(nexts(k))
    return sorted(found)


def steps_down(causes, some, within):
    # For each thing from which a way of arrows, all of it within the list, leads to one of some: how many arrows.
    found = {}
    rim = [k for k in within if k in some]
    steps = 0
    while len(rim) > 0:
        for k in rim:
            found[k] = steps
        rim = [k for k in within if k not in found and meet(effects(causes, k), rim)]
        steps = steps + 1
    return found


def nearer(causes, steps, k):
    # The least effect that is one step nearer, so that ways made of these are the least as lists.
    return [other for other in effects(causes, k) if steps.get(other) == steps[k] - 1][0]


def way_down(causes, k, some):
    steps = steps_down(causes, some, list(range(len(causes))))
    if k not in steps:
        return None
    way = [k]
    while steps[way[-1]] > 0:
        way.append(nearer(causes, steps, way[-1]))
    return way


def without(causes, pairs):
    found = []
    for k, own in enumerate(causes):
        found.append([c for c in own if (c, k) not in pairs])
    return found
