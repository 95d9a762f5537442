"""Lists of things that do for setting one thing and asking another, and why others don't."""

from causebook.reach import barred, made_least
from causebook.roads import open_road
from causebook.shapes import above, beneath, meet, steps_down, way_down, without


def on_ways(causes, x, y):
    over_y = above(causes, [y])
    return [k for k in beneath(causes, [x]) if k in over_y and k != x]


def cut_shape(causes, x, y):
    return without(causes, [(x, k) for k in on_ways(causes, x, y)])


def under_ways(causes, x, y):
    return beneath(causes, on_ways(causes, x, y))


def does(causes, x, y, some):
    if meet(under_ways(causes, x, y), some):
        return False
    return barred(cut_shape(causes, x, y), x, y, some)


def why_not(causes, x, y, some):
    steps = steps_down(causes, some, list(range(len(causes))))
    starts = [k for k in on_ways(causes, x, y) if k in steps]
    if len(starts) > 0:
        # From the nearest one no way down comes by another thing on ways, so it leaves the way at once.
        return beneath_reason(causes, x, y, some, min(starts, key=lambda k: steps[k]))
    road = open_road(cut_shape(causes, x, y), x, y, some)
    return None if road is None else ("road", road)


def beneath_reason(causes, x, y, some, start):
    way = way_down(causes, x, [start]) + way_down(causes, start, [y])[1:]
    return ("beneath", way, way_down(causes, start, some))


def set_among(causes, x, y, among):
    ruled_out = under_ways(causes, x, y) + [x, y]
    over_both = above(cut_shape(causes, x, y), [x, y])
    found = [k for k in over_both if k in among and k not in ruled_out]
    return found if does(causes, x, y, found) else None


def least_set(causes, x, y, some):
    return made_least(some, lambda part: does(causes, x, y, part))
