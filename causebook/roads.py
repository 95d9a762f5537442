"""Roads: what bars them, and the open road of two things."""

from causebook.reach import barred
from causebook.shapes import beneath, effects, meet, way_down


def neighbours(causes, k):
    return causes[k] + effects(causes, k)


def is_road(causes, road):
    if len(road) < 2 or len(set(road)) != len(road):
        return False
    return all([other in neighbours(causes, one) for one, other in zip(road, road[1:])])


def is_vee(causes, road, place):
    own = causes[road[place]]
    return road[place - 1] in own and road[place + 1] in own


def inner_places(road):
    return list(range(1, len(road) - 1))


def vees(causes, road):
    return [road[place] for place in inner_places(road) if is_vee(causes, road, place)]


def bars_at(causes, road, place, known):
    k = road[place]
    if is_vee(causes, road, place):
        return not meet(beneath(causes, [k]), known)
    return k in known


def bar(causes, road, known):
    for place in inner_places(road):
        if bars_at(causes, road, place, known):
            return place
    return None


def downs(causes, road, known):
    return [way_down(causes, k, known) for k in vees(causes, road)]


def open_road(causes, x, y, known):
    # Asked first, so that no road is looked for where all are barred.
    if barred(causes, x, y, known):
        return None
    # Roads lie by how many V's and how many things they have, and are grown from the fewest on:
    # the first pile in which some have come to y has the best of all.
    piles = {(0, 1): [[x]]}
    for count in range(len(causes)):
        for length in range(1, len(causes) + 1):
            pile = piles.get((count, length), [])
            arrived = [road for road in pile if road[-1] == y]
            if len(arrived) > 0:
                return min(arrived)
            for longer in all_longer(causes, pile, known):
                piles.setdefault((len(vees(causes, longer)), length + 1), []).append(longer)
    return None


def all_longer(causes, roads, known):
    found = []
    for road in roads:
        for k in neighbours(causes, road[-1]):
            if k not in road and goes_on(causes, road + [k], known):
                found.append(road + [k])
    return found


def goes_on(causes, road, known):
    # All but the last step was asked before, when the road was shorter.
    return len(road) < 3 or not bars_at(causes, road, len(road) - 2, known)
