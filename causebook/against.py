"""Tables with which a list that doesn't do for setting tells another chance by seeing than by setting."""

from causebook.adjust import cut_shape, why_not
from causebook.coins import COIN, STILL, road_plan, tables_by


def against(sizes, causes, x, y, some):
    reason = why_not(causes, x, y, some)
    if reason is None:
        return None
    if reason[0] == "beneath":
        return tables_by(sizes, causes, beneath_plan(causes, reason[1], reason[2]))
    return tables_by(sizes, causes, road_plan(cut_shape(causes, x, y), reason[1], some))


def beneath_plan(causes, way, down):
    plan = [STILL] * len(causes)
    plan[way[0]] = COIN
    plan[way[1]] = ("near", way[0])
    for ahead, k in list(zip(way[1:], way[2:])) + list(zip(down, down[1:])):
        plan[k] = ("sum", [ahead])
    return plan
