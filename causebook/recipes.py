"""Recipes: what comes of setting, told by the chances of what is seen, where some things are hidden."""

from causebook.clumps import above_in, clumps, seen_things
from causebook.errors import NoGround, NotTold
from causebook.shapes import order_of
from causebook.shares import over, plus, times
from causebook.sheets import filled, joined, left_out, share_at, views_of
from causebook.sums import chance


def counting(causes, hidden, x, y):
    return above_in(causes, [y], [k for k in seen_things(causes, hidden) if k != x])


def goals(causes, hidden, x, y):
    return clumps(causes, hidden, counting(causes, hidden, x, y))


def walked_chain(causes, hidden, clump):
    # The lists come to, and whether they end; where they don't, the last one is the clump that they are stuck in.
    lists = [seen_things(causes, hidden)]
    while True:
        around = clump_around(causes, hidden, clump, lists[-1])
        if around != lists[-1]:
            lists.append(around)
        if around == clump:
            return (lists, True)
        over_clump = above_in(causes, clump, around)
        if over_clump == around:
            return (lists, False)
        lists.append(over_clump)
        if over_clump == clump:
            return (lists, True)


def clump_around(causes, hidden, clump, some):
    return [around for around in clumps(causes, hidden, some) if clump[0] in around][0]


def chain(causes, hidden, clump):
    walked = walked_chain(causes, hidden, clump)
    return walked[0] if walked[1] else None


def recipe(causes, hidden, x, y):
    found = [chain(causes, hidden, clump) for clump in goals(causes, hidden, x, y)]
    return None if None in found else found


def stuck(causes, hidden, x, y):
    for clump in goals(causes, hidden, x, y):
        walked = walked_chain(causes, hidden, clump)
        if not walked[1]:
            return (clump, walked[0][-1])
    return None


def is_chain(causes, hidden, lists):
    if len(lists) == 0 or lists[0] != seen_things(causes, hidden):
        return False
    return all([may_follow(causes, hidden, ahead, part) for ahead, part in zip(lists, lists[1:])])


def may_follow(causes, hidden, ahead, part):
    if len(part) == 0 or len(part) >= len(ahead):
        return False
    return part in clumps(causes, hidden, ahead) or is_all_above(causes, ahead, part)


def is_all_above(causes, ahead, part):
    return all([k in ahead for k in part]) and above_in(causes, part, ahead) == part


def seen_sheet(book, hidden):
    nothing = [None] * len(book[0])
    return [chance(book, view) for view in views_of(book[0], nothing, seen_things(book[1], hidden))]


def worked(sizes, causes, hidden, lists, shares):
    check_shares(shares)
    seen = seen_things(causes, hidden)
    sheet = (seen, shares)
    for ahead, part in zip(lists, lists[1:]):
        sheet = worked_on(sizes, causes, hidden, sheet, ahead, part)
    # A sheet without some seen things has the same share for all their values.
    return [share_at(sizes, sheet, view) for view in views_of(sizes, [None] * len(sizes), seen)]


def check_shares(shares):
    if any([part[0] <= 0 for part in shares]):
        raise NoGround("what is seen has a share that is not above 0")


def worked_on(sizes, causes, hidden, sheet, ahead, part):
    if part in clumps(causes, hidden, ahead):
        return clump_sheet(sizes, sheet, [k for k in order_of(causes) if k in ahead], part)
    found = sheet
    for k in ahead:
        if k not in part:
            found = left_out(sizes, found, k)
    return found


def clump_sheet(sizes, sheet, ordered, clump):
    # From the last thing of the order on: what is later has been summed over when a thing's turn comes.
    found = ([], [(1, 1)])
    later_summed = sheet
    for k in reversed(ordered):
        itself_too = left_out(sizes, later_summed, k)
        if k in clump:
            found = joined(sizes, found, divided(sizes, later_summed, itself_too))
        later_summed = itself_too
    return found


def divided(sizes, one, other):
    found = []
    for part, view in zip(one[1], views_of(sizes, [None] * len(sizes), one[0])):
        found.append(over(part, share_at(sizes, other, view)))
    return (one[0], found)


def told(sizes, causes, hidden, x, a, y, b, shares):
    chains = recipe(causes, hidden, x, y)
    if chains is None:
        raise NotTold("what comes of this setting can't be told from what is seen")
    seen = seen_things(causes, hidden)
    sheets = [(seen, worked(sizes, causes, hidden, lists, shares)) for lists in chains]
    summed = [k for k in counting(causes, hidden, x, y) if k != y]
    found = (0, 1)
    for view in views_of(sizes, filled([0] * len(sizes), [x, y], [a, b]), summed):
        found = plus(found, product_at(sizes, sheets, view))
    return found


def product_at(sizes, sheets, view):
    found = (1, 1)
    for sheet in sheets:
        found = times(found, share_at(sizes, sheet, view))
    return found
