"""Coins: tables made by a plan, and those with which two things hang together."""

from causebook.books import picked
from causebook.roads import downs, open_road
from causebook.worlds import worlds

STILL = ("still",)
COIN = ("coin",)


def tables_by(sizes, causes, plan):
    return [table_by(sizes, causes[k], sizes[k], part) for k, part in enumerate(plan)]


def table_by(sizes, own, size, part):
    return [pair_by(own, world, part) + [0] * (size - 2) for world in worlds(picked(sizes, own))]


def pair_by(own, world, part):
    # The weights of the values 0 and 1; all others have none.
    kind = part[0]
    if kind == "still":
        return [1, 0]
    if kind == "coin":
        return [1, 2]
    if kind == "sum":
        return mostly(odd_sum(own, world, part[1]), 1, 0)
    return mostly(odd_sum(own, world, [part[1]]), 2, 1)


def odd_sum(own, world, feeders):
    return sum([value for c, value in zip(own, world) if c in feeders]) % 2


def mostly(bit, due, other):
    return [due, other] if bit == 0 else [other, due]


def road_plan(causes, road, known):
    plan = [STILL] * len(causes)
    for place, k in enumerate(road):
        plan[k] = road_part(causes, k, road[max(place - 1, 0):place + 2])
    for down in downs(causes, road, known):
        for ahead, k in zip(down, down[1:]):
            plan[k] = ("sum", [ahead])
    return plan


def road_part(causes, k, around):
    # What stands around k on the road is k too, but nothing is its own cause.
    feeders = [c for c in causes[k] if c in around]
    return ("sum", feeders) if len(feeders) > 0 else COIN


def hanging(sizes, causes, x, y, known):
    road = open_road(causes, x, y, known)
    if road is None:
        return None
    return tables_by(sizes, causes, road_plan(causes, road, known))
