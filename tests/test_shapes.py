"""Shapes: points [6], [7], [8], and what point [2] says of them."""

import itertools
import unittest

from causebook.errors import Ring
from causebook.shapes import above, beneath, effects, order_of, way_down, without
from helper import (CHAIN, FORK, VEE, all_shapes, assert_own, assert_refused, assert_ring, has_ring, random_shape,
                    source_of, subsets)


def order_by_hand(causes):
    """Of all lists with each thing behind its causes the least: at each place the least that can stand there."""
    found = []
    while len(found) < len(causes):
        found.append(min(k for k in range(len(causes)) if k not in found and set(causes[k]) <= set(found)))
    return found


def ways_from(causes, k):
    """All ways of arrows that begin with k."""
    yield [k]
    for other in range(len(causes)):
        if k in causes[other]:
            for way in ways_from(causes, other):
                yield [k] + way


def some_shapes(seed, turns, numbers=(0, 1, 2, 3, 5, 7, 9, 12)):
    source = source_of(seed)
    for turn in range(turns):
        yield random_shape(source, source.choice(numbers), thick=source.choice((0.1, 0.3, 0.6, 1.0)))


class Ordered(unittest.TestCase):
    def test_small_ones(self):
        self.assertEqual(assert_own(self, order_of, []), [])
        self.assertEqual(assert_own(self, order_of, [[]]), [0])
        self.assertEqual(assert_own(self, order_of, [[], [], []]), [0, 1, 2])
        self.assertEqual(assert_own(self, order_of, CHAIN), [0, 1, 2])
        self.assertEqual(assert_own(self, order_of, [[1], [2], []]), [2, 1, 0])
        self.assertEqual(assert_own(self, order_of, FORK), [1, 0, 2])
        self.assertEqual(assert_own(self, order_of, VEE), [0, 2, 1])
        self.assertEqual(assert_own(self, order_of, [[3], [], [], []]), [1, 2, 3, 0])

    def test_the_least_that_can_stand_and_not_the_earliest_made_free(self):
        self.assertEqual(order_of([[4], [0], [], [], []]), [2, 3, 4, 0, 1])
        self.assertEqual(order_of([[2], [], [], [0, 1]]), [1, 2, 0, 3])

    def test_all_shapes_of_up_to_four(self):
        for number in range(5):
            for causes in all_shapes(number):
                self.assertEqual(order_of(causes), order_by_hand(causes))

    def test_up_to_twelve_things_with_up_to_five_causes(self):
        for causes in some_shapes(7, 150):
            told = assert_own(self, order_of, causes)
            self.assertEqual(told, order_by_hand(causes))
            self.assertEqual(sorted(told), list(range(len(causes))))
            for place, k in enumerate(told):
                self.assertLessEqual(set(causes[k]), set(told[:place]))


class Rings(unittest.TestCase):
    def ring_of(self, causes):
        ring = assert_refused(self, Ring, order_of, causes).ring
        assert_ring(self, causes, ring)
        return ring

    def test_of_one_thing(self):
        self.assertEqual(self.ring_of([[0]]), [0])
        self.assertEqual(self.ring_of([[], [0, 1], [0]]), [1])
        self.assertEqual(self.ring_of([[], [], [0, 1, 2]]), [2])

    def test_of_two(self):
        self.assertEqual(self.ring_of([[1], [0]]), [0, 1])
        self.assertEqual(self.ring_of([[], [2], [0, 1]]), [1, 2])

    def test_each_is_a_cause_of_the_next(self):
        self.assertEqual(self.ring_of([[2], [0], [1]]), [0, 1, 2])
        self.assertEqual(self.ring_of([[1], [2], [0]]), [0, 2, 1])
        self.assertEqual(self.ring_of([[], [4], [1], [2], [3]]), [1, 2, 3, 4])

    def test_of_many(self):
        self.assertEqual(self.ring_of([[(k + 11) % 12] for k in range(12)]), list(range(12)))
        self.assertEqual(self.ring_of([[(k + 1) % 12] for k in range(12)]), [0] + list(range(11, 0, -1)))

    def test_beside_things_that_lie_on_none(self):
        # 0 and 5 only lead to the ring or hang from it.
        self.assertEqual(self.ring_of([[3], [4], [1, 5], [2, 4], [2], []]), [1, 2, 4])
        self.assertEqual(self.ring_of([[1], [2], [3], [4], [3]]), [3, 4])

    def test_every_list_of_causes_of_three_things(self):
        for causes in itertools.product(list(subsets(range(3))), repeat=3):
            causes = list(causes)
            if has_ring(causes):
                self.ring_of(causes)
            else:
                self.assertEqual(order_of(causes), order_by_hand(causes))

    def test_shapes_with_an_arrow_more(self):
        source = source_of(77)
        seen = 0
        for causes in some_shapes(78, 200, (2, 5, 9, 12)):
            cause, effect = source.randrange(len(causes)), source.randrange(len(causes))
            if len(causes[effect]) < 5 and cause not in causes[effect]:
                causes[effect] = sorted(causes[effect] + [cause])
                if has_ring(causes):
                    seen += 1
                    self.ring_of(causes)
        self.assertGreater(seen, 30)


class AboveAndBeneath(unittest.TestCase):
    def test_effects(self):
        self.assertEqual(assert_own(self, effects, [[]], 0), [])
        self.assertEqual(assert_own(self, effects, FORK, 1), [0, 2])
        self.assertEqual(assert_own(self, effects, VEE, 1), [])
        self.assertEqual(assert_own(self, effects, [[3], [3], [], [], [3]], 3), [0, 1, 4])

    def test_small_ones(self):
        self.assertEqual(assert_own(self, above, CHAIN, []), [])
        self.assertEqual(assert_own(self, above, CHAIN, [1]), [0, 1])
        self.assertEqual(assert_own(self, above, CHAIN, [2, 0]), [0, 1, 2])
        self.assertEqual(assert_own(self, above, VEE, [1]), [0, 1, 2])
        self.assertEqual(assert_own(self, beneath, CHAIN, []), [])
        self.assertEqual(assert_own(self, beneath, CHAIN, [1]), [1, 2])
        self.assertEqual(assert_own(self, beneath, FORK, [1]), [0, 1, 2])
        self.assertEqual(assert_own(self, beneath, FORK, [2, 0]), [0, 2])
        self.assertEqual(assert_own(self, above, [], []), [])
        self.assertEqual(assert_own(self, beneath, [], []), [])

    def test_by_all_ways(self):
        source = source_of(8)
        for causes in some_shapes(80, 60, (1, 2, 4, 6, 8)):
            number = len(causes)
            under = {k: {way[-1] for way in ways_from(causes, k)} for k in range(number)}
            for k in range(number):
                self.assertEqual(effects(causes, k), [e for e in range(number) if k in causes[e]])
            for some in ([], [source.randrange(number)], source.sample(range(number), number // 2),
                         source.sample(range(number), number)):
                self.assertEqual(assert_own(self, beneath, causes, some),
                                 [k for k in range(number) if any(k in under[s] for s in some)])
                self.assertEqual(assert_own(self, above, causes, some),
                                 [k for k in range(number) if any(s in under[k] for s in some)])


class TheWayDown(unittest.TestCase):
    def test_itself(self):
        self.assertEqual(assert_own(self, way_down, CHAIN, 1, [1]), [1])
        self.assertEqual(assert_own(self, way_down, CHAIN, 1, [2, 1, 0]), [1])

    def test_none(self):
        self.assertIsNone(way_down(CHAIN, 0, []))
        self.assertIsNone(way_down(CHAIN, 2, [0, 1]))
        self.assertIsNone(way_down([[], []], 0, [1]))

    def test_the_shortest(self):
        self.assertEqual(assert_own(self, way_down, CHAIN, 0, [2]), [0, 1, 2])
        self.assertEqual(assert_own(self, way_down, [[], [0], [0, 1]], 0, [2]), [0, 2])
        self.assertEqual(assert_own(self, way_down, CHAIN, 0, [2, 1]), [0, 1])

    def test_of_several_the_least(self):
        self.assertEqual(way_down([[], [0], [0], [1, 2]], 0, [3]), [0, 1, 3])
        self.assertEqual(way_down([[], [0], [0], [2], [1]], 0, [3, 4]), [0, 1, 4])
        self.assertEqual(way_down([[2, 3], [], [1], [1]], 1, [0]), [1, 2, 0])

    def test_by_all_ways(self):
        source = source_of(9)
        for causes in some_shapes(90, 60, (1, 2, 4, 6, 8)):
            number = len(causes)
            for k in range(number):
                some = source.sample(range(number), source.randint(0, min(3, number)))
                ways = [way for way in ways_from(causes, k) if way[-1] in some]
                best = min(ways, key=lambda way: (len(way), way), default=None)
                self.assertEqual(assert_own(self, way_down, causes, k, some), best)


class Without(unittest.TestCase):
    def test_arrows_that_are_there(self):
        self.assertEqual(assert_own(self, without, CHAIN, [(0, 1)]), [[], [], [1]])
        self.assertEqual(assert_own(self, without, VEE, [(2, 1), (0, 1)]), [[], [], []])
        self.assertEqual(assert_own(self, without, CHAIN, []), CHAIN)
        self.assertEqual(assert_own(self, without, [], []), [])

    def test_pairs_that_are_no_arrow(self):
        self.assertEqual(assert_own(self, without, CHAIN, [(1, 0), (0, 2), (2, 2)]), CHAIN)
        self.assertEqual(assert_own(self, without, CHAIN, [(1, 0), (1, 2), (1, 2)]), [[], [0], []])

    def test_some_of_each(self):
        source = source_of(10)
        for causes in some_shapes(100, 60):
            number = len(causes)
            every = [(c, k) for c in range(number) for k in range(number)]
            pairs = source.sample(every, len(every) // 2)
            told = assert_own(self, without, causes, pairs)
            self.assertEqual(told, [[c for c in causes[k] if (c, k) not in set(pairs)] for k in range(number)])


if __name__ == "__main__":
    unittest.main()
