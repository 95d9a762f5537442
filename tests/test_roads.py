"""Roads: points [16] and [19], and what point [2] says of them."""

import itertools
import unittest

from causebook.reach import barred
from causebook.roads import bar, downs, is_road, open_road
from helper import (CHAIN, FORK, VEE, all_shapes, assert_own, bars_of, best_road, random_question, random_shape,
                    roads_between, source_of, subsets, vee_places)

# 0 -> 2 <- 1, and 2 -> 3 -> 4.
DEEP_VEE = [[], [], [0, 1], [2], [3]]
# 0 -> 1 <- 2 -> 3 <- 4, and 1 -> 5, 3 -> 6 -> 7.
TWO_VEES = [[], [0, 2], [], [2, 4], [], [1], [3], [6]]


class IsRoad(unittest.TestCase):
    def check(self, causes, road, wanted):
        self.assertIs(assert_own(self, is_road, causes, road), wanted)

    def test_arrows_either_way(self):
        for road in ([0, 1], [1, 0], [0, 1, 2], [2, 1, 0], [1, 2]):
            self.check(CHAIN, road, True)
            self.check(FORK, road, True)
            self.check(VEE, road, True)

    def test_no_thing_and_one(self):
        self.check(CHAIN, [], False)
        self.check([], [], False)
        for k in range(3):
            self.check(CHAIN, [k], False)

    def test_a_thing_twice(self):
        for road in ([0, 1, 0], [1, 0, 1], [0, 1, 2, 1], [0, 1, 2, 0]):
            self.check(CHAIN, road, False)
        self.check([[], [0], [0, 1]], [0, 1, 2, 0], False)

    def test_next_to_itself(self):
        self.check(CHAIN, [0, 0], False)
        self.check(CHAIN, [0, 1, 1], False)
        self.check(CHAIN, [0, 0, 1, 2], False)

    def test_neighbours_without_an_arrow(self):
        self.check(CHAIN, [0, 2], False)
        self.check(CHAIN, [1, 0, 2], False)
        self.check([[], []], [0, 1], False)

    def test_long_ones(self):
        self.check([[]] + [[k] for k in range(11)], list(range(12)), True)
        self.check([[]] + [[k] for k in range(11)], list(range(11, -1, -1)), True)
        self.check(CHAIN, [0, 1] * 2500, False)

    def test_all_lists_of_small_shapes(self):
        source = source_of(61)
        for turn in range(12):
            causes = random_shape(source, 4)
            for length in range(5):
                for road in itertools.product(range(4), repeat=length):
                    joined = all(one in causes[other] or other in causes[one] for one, other in zip(road, road[1:]))
                    wanted = length > 1 and len(set(road)) == length and joined
                    self.assertIs(is_road(causes, list(road)), wanted)


class Bars(unittest.TestCase):
    def check(self, causes, road, known, wanted):
        self.assertEqual(assert_own(self, bar, causes, road, known), wanted)

    def test_two_things(self):
        self.check(CHAIN, [0, 1], [], None)
        self.check(CHAIN, [1, 0], [2], None)

    def test_no_vee(self):
        for causes in (CHAIN, FORK):
            self.check(causes, [0, 1, 2], [], None)
            self.check(causes, [0, 1, 2], [1], 1)
            self.check(causes, [2, 1, 0], [1], 1)

    def test_a_vee(self):
        self.check(VEE, [0, 1, 2], [], 1)
        self.check(VEE, [0, 1, 2], [1], None)
        self.check(DEEP_VEE, [0, 2, 1], [], 1)
        for known in ([2], [3], [4], [4, 3, 2]):
            self.check(DEEP_VEE, [0, 2, 1], known, None)

    def test_the_first_that_bars(self):
        self.check(TWO_VEES, [0, 1, 2, 3, 4], [], 1)
        self.check(TWO_VEES, [0, 1, 2, 3, 4], [7], 1)
        self.check(TWO_VEES, [4, 3, 2, 1, 0], [7], 3)
        self.check(TWO_VEES, [0, 1, 2, 3, 4], [5], 3)
        self.check(TWO_VEES, [0, 1, 2, 3, 4], [5, 2], 2)
        self.check(TWO_VEES, [0, 1, 2, 3, 4], [6, 5], None)

    def test_a_thing_is_a_vee_by_the_road_alone(self):
        # 1 has both causes 0 and 2, but on this road it has 0 and its effect 5.
        self.check(TWO_VEES, [0, 1, 5], [], None)
        self.check(TWO_VEES, [0, 1, 5], [1], 1)

    def test_by_chance(self):
        source = source_of(62)
        for turn in range(150):
            causes = random_shape(source, source.choice((3, 5, 6)), thick=0.6)
            x, y, known = random_question(source, len(causes))
            for road in itertools.islice(roads_between(causes, x, y), 12):
                bars = bars_of(causes, road, known)
                self.check(causes, road, known, bars[0] if bars else None)
                self.assertTrue(is_road(causes, road))


class Downs(unittest.TestCase):
    def test_small_ones(self):
        self.assertEqual(assert_own(self, downs, CHAIN, [0, 1, 2], []), [])
        self.assertEqual(assert_own(self, downs, VEE, [0, 1, 2], [1]), [[1]])
        self.assertEqual(assert_own(self, downs, DEEP_VEE, [0, 2, 1], [4]), [[2, 3, 4]])
        self.assertEqual(assert_own(self, downs, DEEP_VEE, [0, 2, 1], [4, 3]), [[2, 3]])
        self.assertEqual(assert_own(self, downs, TWO_VEES, [0, 1, 2, 3, 4], [7, 5]), [[1, 5], [3, 6, 7]])
        self.assertEqual(assert_own(self, downs, TWO_VEES, [4, 3, 2, 1, 0], [7, 5]), [[3, 6, 7], [1, 5]])


def ways_down(causes, k, known):
    if k in known:
        return [[k]]
    found = []
    for e in range(len(causes)):
        if k in causes[e]:
            found += [[k] + way for way in ways_down(causes, e, known)]
    return found


class TheOpenRoad(unittest.TestCase):
    def test_small_ones(self):
        self.assertEqual(assert_own(self, open_road, [[], [0]], 0, 1, []), [0, 1])
        self.assertEqual(assert_own(self, open_road, [[], [0]], 1, 0, []), [1, 0])
        self.assertEqual(assert_own(self, open_road, CHAIN, 2, 0, []), [2, 1, 0])
        self.assertIsNone(open_road(CHAIN, 0, 2, [1]))
        self.assertIsNone(open_road([[], []], 0, 1, []))
        self.assertIsNone(open_road(VEE, 0, 2, []))
        self.assertEqual(assert_own(self, open_road, VEE, 0, 2, [1]), [0, 1, 2])
        self.assertEqual(assert_own(self, open_road, TWO_VEES, 4, 0, [5, 7]), [4, 3, 2, 1, 0])

    def test_fewer_vees_before_fewer_things(self):
        # 0 -> 1 <- 2, 1 known; and the long way 0 -> 3 -> 4 -> 2.
        self.assertEqual(open_road([[], [0, 2], [4], [0], [3]], 0, 2, [1]), [0, 3, 4, 2])

    def test_fewer_things_before_the_least_list(self):
        self.assertEqual(open_road([[], [0], [1, 3], [0, 4], []], 0, 2, []), [0, 1, 2])
        # 0 -> 1 -> 2 -> 4 and 0 -> 3 -> 4
        self.assertEqual(open_road([[], [0], [1], [0], [2, 3]], 0, 4, []), [0, 3, 4])

    def test_of_several_the_least_as_a_list(self):
        self.assertEqual(open_road([[], [0], [0], [1, 2]], 0, 3, []), [0, 1, 3])
        self.assertEqual(open_road([[], [0], [0], [1, 2]], 3, 0, []), [3, 1, 0])

    def test_all_shapes_of_four(self):
        for causes in all_shapes(4):
            for known in subsets([1, 3]):
                self.assertEqual(open_road(causes, 2, 0, known), best_road(causes, 2, 0, known))

    def test_by_chance_against_all_roads(self):
        source = source_of(63)
        vees = [0, 0, 0, 0]
        for turn in range(500):
            causes = random_shape(source, source.choice((4, 5, 6)), thick=source.choice((0.3, 0.5, 0.8)))
            x, y, known = random_question(source, len(causes), 4)
            told = assert_own(self, open_road, causes, x, y, known)
            self.assertEqual(told, best_road(causes, x, y, known))
            self.assertEqual(told is None, barred(causes, x, y, known))
            source.shuffle(known)
            self.assertEqual(open_road(causes, x, y, known), told)
            if told is not None:
                self.assertEqual((told[0], told[-1]), (x, y))
                self.assertIsNone(bar(causes, told, known))
                vees[len(vee_places(causes, told))] += 1
                self.check_downs(causes, told, known)
        self.assertGreater(min(vees[:3]), 0)

    def check_downs(self, causes, road, known):
        told = assert_own(self, downs, causes, road, known)
        wanted = []
        for place in vee_places(causes, road):
            wanted.append(min(ways_down(causes, road[place], known), key=lambda way: (len(way), way)))
        self.assertEqual(told, wanted)
        # They have nothing in common with one another, and with the road their first things alone.
        every = list(road)
        for down in told:
            every += down[1:]
        self.assertEqual(len(set(every)), len(every))

    def test_two_and_more_vees(self):
        source = source_of(64)
        # 0 -> 1 <- 2 -> 3 <- 4 -> 5 <- 6, the V's known.
        causes = [[], [0, 2], [], [2, 4], [], [4, 6], []]
        self.assertEqual(open_road(causes, 0, 6, [5, 1, 3]), [0, 1, 2, 3, 4, 5, 6])
        self.assertIsNone(open_road(causes, 0, 6, [5, 1]))
        self.check_downs(causes, [0, 1, 2, 3, 4, 5, 6], [5, 1, 3])
        for turn in range(60):
            order = source.sample(range(7), 7)
            renamed = [[] for k in range(7)]
            for k, own in enumerate(causes):
                renamed[order[k]] = sorted(order[c] for c in own)
            known = [order[k] for k in (1, 3, 5)]
            self.assertEqual(open_road(renamed, order[0], order[6], known), order)

    def test_eight_things_with_all_arrows(self):
        causes = [list(range(max(0, k - 5), k)) for k in range(8)]
        self.assertEqual(open_road(causes, 0, 7, []), [0, 2, 7])
        self.assertEqual(open_road(causes, 7, 0, [2]), [7, 3, 0])
        for known in ([1, 2, 3], [6, 5, 4], [1, 6], [2, 3, 4, 5], [1, 2, 3, 4, 5, 6]):
            self.assertEqual(open_road(causes, 0, 7, known), best_road(causes, 0, 7, known))


if __name__ == "__main__":
    unittest.main()
