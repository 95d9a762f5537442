"""What the tests share: shapes and books made by chance, reckonings over all worlds, and checks of point [2].

Nothing here asks the program: what it tells is held against what is reckoned here by other means.
"""

import copy
import itertools
import random
from fractions import Fraction

# Of every kind but whole numbers, and none a list.
NO_LISTS = [None, True, False, 0, 1, -1, 7, 1.5, "", "12", "one", (), (0,), (1, 2), {}, {0: 1}, set(), range(2), object()]
NOT_WHOLE = [True, False, None, "", "1", (), (1,), [], [1], {}, 1.0, 2.5, object()]

CHAIN = [[], [0], [1]]
FORK = [[1], [], [1]]
VEE = [[], [0, 2], []]


def source_of(seed):
    return random.Random(seed)


def pair(fraction):
    return (fraction.numerator, fraction.denominator)


def fraction(share):
    return Fraction(share[0], share[1])


def random_shape(source, number, most=5, thick=0.5):
    """Arrows go from earlier to later things of a shuffled list, so that numbers don't tell the order."""
    order = list(range(number))
    source.shuffle(order)
    causes = [[] for k in range(number)]
    for place, k in enumerate(order):
        ahead = [c for c in order[:place] if source.random() < thick]
        causes[k] = sorted(source.sample(ahead, min(most, len(ahead))))
    return causes


def all_shapes(number):
    """All shapes of so many things, whatever way the arrows go."""
    pairs = list(itertools.combinations(range(number), 2))
    for ways in itertools.product((0, 1, 2), repeat=len(pairs)):
        causes = [[] for k in range(number)]
        for (one, other), way in zip(pairs, ways):
            if way == 1:
                causes[other].append(one)
            if way == 2:
                causes[one].append(other)
        causes = [sorted(own) for own in causes]
        if not has_ring(causes):
            yield causes


def has_ring(causes):
    left = set(range(len(causes)))
    while left:
        free = {k for k in left if not set(causes[k]) & left}
        if not free:
            return True
        left -= free
    return False


def worlds_of(sizes):
    return itertools.product(*[range(size) for size in sizes])


def random_tables(source, sizes, causes, greatest=9, noughts=0.0):
    tables = []
    for k, own in enumerate(causes):
        table = []
        for values in worlds_of([sizes[c] for c in own]):
            row = [0 if source.random() < noughts else source.randint(1, greatest) for a in range(sizes[k])]
            if sum(row) == 0:
                row[source.randrange(sizes[k])] = source.randint(1, greatest)
            table.append(row)
        tables.append(table)
    return tables


def random_book(source, causes, sizes=None, greatest=9, noughts=0.0):
    if sizes is None:
        sizes = [source.choice((2, 2, 3)) for own in causes]
    return (list(sizes), copy.deepcopy(causes), random_tables(source, sizes, causes, greatest, noughts))


def chance_of_value(book, k, world):
    sizes, causes, tables = book
    place = list(worlds_of([sizes[c] for c in causes[k]])).index(tuple(world[c] for c in causes[k]))
    row = tables[k][place]
    return Fraction(row[world[k]], sum(row))


def whole_of(book):
    """All worlds of a book with their chances, each table's rows found by a dict."""
    sizes, causes, tables = book
    places = []
    for own in causes:
        places.append({values: place for place, values in enumerate(worlds_of([sizes[c] for c in own]))})
    found = {}
    for world in worlds_of(sizes):
        chance = Fraction(1)
        for k, own in enumerate(causes):
            row = tables[k][places[k][tuple(world[c] for c in own)]]
            chance *= Fraction(row[world[k]], sum(row))
        found[world] = chance
    return found


def fits(world, view):
    return all(known is None or known == value for value, known in zip(world, view))


def sum_over(whole, view):
    return sum((chance for world, chance in whole.items() if fits(world, view)), Fraction(0))


def view_with(number, values):
    return [values.get(k) for k in range(number)]


def random_view(source, sizes, known=0.3):
    return [source.randrange(size) if source.random() < known else None for size in sizes]


def set_by_hand(book, k, a):
    sizes, causes, tables = copy.deepcopy(book)
    causes[k] = []
    tables[k] = [[int(value == a) for value in range(sizes[k])]]
    return (sizes, causes, tables)


def subsets(some):
    for count in range(len(some) + 1):
        for part in itertools.combinations(some, count):
            yield list(part)


def lists_in(thing):
    """All lists within what is told, each as often as it stands there."""
    found = []
    if isinstance(thing, list):
        found.append(thing)
    if isinstance(thing, dict):
        found += lists_in(list(thing.values()))[1:]
    if isinstance(thing, (list, tuple)):
        for part in thing:
            found += lists_in(part)
    return found


def assert_own(test, function, *args):
    """Point [2]: nothing handed in is changed; what is told is new in all its lists and the asker's own."""
    before = copy.deepcopy(args)
    told = function(*args)
    test.assertEqual(args, before)
    kept = copy.deepcopy(told)
    lists = lists_in(told)
    test.assertEqual(len({id(one) for one in lists + lists_in(args)}),
                     len(lists) + len({id(one) for one in lists_in(args)}))
    for one in lists:
        one.clear()
        one.append("changed")
    test.assertEqual(args, before)
    again = function(*args)
    test.assertEqual(again, kept)
    test.assertEqual(args, before)
    return kept


def assert_refused(test, error, function, *args):
    """The very refusal, and nothing handed in is changed by it."""
    before = repr(args)
    with test.assertRaises(error) as taken:
        function(*args)
    test.assertIs(type(taken.exception), error)
    test.assertEqual(repr(args), before)
    return taken.exception


def assert_ring(test, causes, ring):
    """As point [7] tells a ring."""
    test.assertIs(type(ring), list)
    test.assertGreater(len(ring), 0)
    test.assertEqual(len(set(ring)), len(ring))
    test.assertEqual(ring[0], min(ring))
    for place, k in enumerate(ring):
        test.assertIn(k, causes[ring[(place + 1) % len(ring)]])


def under_of(causes):
    """For each thing all that are beneath it, itself too."""
    found = [{k} for k in range(len(causes))]
    for turn in causes:
        for k, own in enumerate(causes):
            for c in own:
                found[c] |= found[k]
    return found


def roads_between(causes, x, y):
    """All roads from x to y, by going wherever an arrow leads either way."""
    waiting = [[x]]
    while waiting:
        road = waiting.pop()
        if road[-1] == y:
            yield road
            continue
        for k in range(len(causes)):
            if k not in road and (k in causes[road[-1]] or road[-1] in causes[k]):
                waiting.append(road + [k])


def vee_places(causes, road):
    return [place for place in range(1, len(road) - 1) if {road[place - 1], road[place + 1]} <= set(causes[road[place]])]


def bars_of(causes, road, known):
    """The places of all things that bar a road, by the words of point [16]."""
    under, vees = under_of(causes), vee_places(causes, road)
    found = []
    for place in range(1, len(road) - 1):
        k = road[place]
        if (place in vees and not under[k] & set(known)) or (place not in vees and k in known):
            found.append(place)
    return found


def barred_by_roads(causes, x, y, known):
    return all(bars_of(causes, road, known) for road in roads_between(causes, x, y))


def best_road(causes, x, y, known):
    """Point [19] by a search over all roads."""
    free = [road for road in roads_between(causes, x, y) if not bars_of(causes, road, known)]
    return min(free, key=lambda road: (len(vee_places(causes, road)), len(road), road), default=None)


def random_question(source, number, most=3):
    """Two unlike things, and some others in any order."""
    things = source.sample(range(number), number)
    return things[0], things[1], things[2:2 + source.randint(0, min(most, number - 2))]


def hidden_shape(source, seen, hidden, thick=0.4):
    """A shape of seen things, and hidden ones above two of them each, all numbers shuffled."""
    causes = random_shape(source, seen, most=2, thick=thick) + [[] for turn in range(hidden)]
    for k in range(seen, seen + hidden):
        for effect in source.sample([e for e in range(seen) if len(causes[e]) < 5], 2):
            causes[effect] = causes[effect] + [k]
    order = source.sample(range(seen + hidden), seen + hidden)
    renamed = [[] for k in order]
    for k, own in enumerate(causes):
        renamed[order[k]] = sorted(order[c] for c in own)
    return renamed, sorted(order[seen:])


def some_questions(seed, turns, numbers=(2, 3, 4, 5, 6)):
    """Shapes with two unlike things and some others of them."""
    source = source_of(seed)
    for turn in range(turns):
        causes = random_shape(source, source.choice(numbers), thick=source.choice((0.3, 0.5, 0.8)))
        yield (causes,) + random_question(source, len(causes))


def some_books(seed, turns, numbers=(0, 1, 2, 3, 4, 5), greatest=(1, 9, 10 ** 60 - 1), noughts=(0.0, 0.3)):
    """Books of few things; with the greatest weight 1 many worlds are equally likely."""
    source = source_of(seed)
    for turn in range(turns):
        causes = random_shape(source, source.choice(numbers), thick=source.choice((0.3, 0.7, 1.0)))
        yield random_book(source, causes, greatest=source.choice(greatest), noughts=source.choice(noughts))


def seen_of(causes, hidden):
    return [k for k in range(len(causes)) if k not in hidden]


def least_by_hand(some, holds):
    """As point [20] makes a list least."""
    left, before = sorted(some), None
    while left != before:
        before = list(left)
        for k in reversed(before):
            rest = [other for other in left if other != k]
            if holds(rest):
                left = rest
    return left
