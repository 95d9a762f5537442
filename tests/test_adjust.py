"""Lists that do for setting, and tables against others: points [24] to [27], what [3] and [2] say of them."""

import unittest
from fractions import Fraction

from causebook.adjust import cut_shape, does, least_set, on_ways, set_among, why_not
from causebook.against import against
from causebook.books import book
from causebook.roads import open_road
from causebook.setting import by_seeing, by_setting
from helper import (CHAIN, FORK, VEE, all_shapes, assert_own, barred_by_roads, least_by_hand, random_book, set_by_hand,
                    some_questions, source_of, subsets, sum_over, under_of, view_with, whole_of)

# 0 is a cause of 1 and of 3, 1 -> 2 -> 3, and 2 -> 4: ask 3 where 1 is set.
MIXED = [[], [0], [1], [0, 2], [2]]


def ways_between(causes, x, y):
    """All ways of arrows from x to y."""
    if x == y:
        return [[y]]
    found = []
    for e in range(len(causes)):
        if x in causes[e]:
            found += [[x] + way for way in ways_between(causes, e, y)]
    return found


def on_ways_by_hand(causes, x, y):
    return sorted({k for way in ways_between(causes, x, y) for k in way} - {x})


def cut_by_hand(causes, x, y):
    ways = on_ways_by_hand(causes, x, y)
    return [[c for c in own if c != x or k not in ways] for k, own in enumerate(causes)]


def fails_a(causes, x, y, some):
    under = under_of(causes)
    return any(set(some) & under[k] for k in on_ways_by_hand(causes, x, y))


def does_by_hand(causes, x, y, some):
    return not fails_a(causes, x, y, some) and barred_by_roads(cut_by_hand(causes, x, y), x, y, some)


class OnWays(unittest.TestCase):
    def check(self, causes, x, y, ways, cut):
        self.assertEqual(assert_own(self, on_ways, causes, x, y), ways)
        self.assertEqual(assert_own(self, cut_shape, causes, x, y), cut)

    def test_no_way(self):
        self.check([[], []], 0, 1, [], [[], []])
        self.check(VEE, 0, 2, [], VEE)
        self.check(FORK, 0, 2, [], FORK)

    def test_y_a_cause_of_x(self):
        self.check(CHAIN, 2, 0, [], CHAIN)
        self.check([[], [0]], 1, 0, [], [[], [0]])

    def test_one_way(self):
        self.check([[], [0]], 0, 1, [1], [[], []])
        self.check(CHAIN, 0, 2, [1, 2], [[], [], [1]])
        self.check(MIXED, 1, 3, [2, 3], [[], [0], [], [0, 2], [2]])

    def test_several(self):
        # 0 -> 1 -> 3, 0 -> 2 -> 3, 0 -> 3, and 0 -> 4 that leads nowhere.
        self.check([[], [0], [0], [0, 1, 2], [0]], 0, 3, [1, 2, 3], [[], [], [], [1, 2], [0]])

    def test_by_chance(self):
        for causes, x, y, some in some_questions(80, 150):
            self.check(causes, x, y, on_ways_by_hand(causes, x, y), cut_by_hand(causes, x, y))


class Does(unittest.TestCase):
    def check(self, causes, x, y, some, wanted):
        self.assertIs(assert_own(self, does, causes, x, y, some), wanted)

    def test_the_empty_list(self):
        self.check([[], [0]], 0, 1, [], True)
        self.check([[], []], 0, 1, [], True)
        self.check([[], [0]], 1, 0, [], False)
        self.check(FORK, 0, 2, [], False)
        self.check(VEE, 0, 2, [], True)
        self.check(MIXED, 1, 3, [], False)

    def test_it_does(self):
        self.check(MIXED, 1, 3, [0], True)
        self.check(FORK, 0, 2, [1], True)

    def test_it_fails_by_a(self):
        self.check(MIXED, 1, 3, [0, 2], False)
        self.check(MIXED, 1, 3, [4, 0], False)
        self.check(CHAIN, 0, 2, [1], False)

    def test_it_fails_by_b(self):
        self.check(VEE, 0, 2, [1], False)
        self.check(FORK, 2, 0, [], False)

    def test_it_fails_by_both(self):
        self.check(MIXED, 1, 3, [2], False)
        self.check(MIXED, 1, 3, [4], False)

    def test_all_shapes_of_four(self):
        for causes in all_shapes(4):
            for some in subsets([1, 2]):
                self.assertIs(does(causes, 3, 0, some), does_by_hand(causes, 3, 0, some))

    def test_by_chance(self):
        seen = {(True, True): 0, (True, False): 0, (False, True): 0, (False, False): 0}
        for causes, x, y, some in some_questions(81, 400, (4, 5, 6)):
            self.check(causes, x, y, some, does_by_hand(causes, x, y, some))
            opened = not barred_by_roads(cut_by_hand(causes, x, y), x, y, some)
            seen[(fails_a(causes, x, y, some), opened)] += 1
        self.assertGreater(min(seen.values()), 5)


class WhyNot(unittest.TestCase):
    def check(self, causes, x, y, some):
        told = assert_own(self, why_not, causes, x, y, some)
        if does_by_hand(causes, x, y, some):
            self.assertIsNone(told)
            return None
        self.assertIs(type(told), tuple)
        if not fails_a(causes, x, y, some):
            self.assertEqual(told, ("road", open_road(cut_by_hand(causes, x, y), x, y, some)))
            self.assertIsNotNone(told[1])
            return "road"
        kind, way, down = told
        self.assertEqual(kind, "beneath")
        self.assertEqual((way[0], way[-1]), (x, y))
        for line in (way, down):
            self.assertIs(type(line), list)
            for one, other in zip(line, line[1:]):
                self.assertIn(one, causes[other])
        self.assertIn(down[0], way[1:])
        self.assertIn(down[-1], some)
        self.assertEqual(set(down[1:]) & set(way), set())
        return "beneath"

    def test_small_ones(self):
        self.assertIsNone(self.check(MIXED, 1, 3, [0]))
        self.assertEqual(why_not(MIXED, 1, 3, []), ("road", [1, 0, 3]))
        self.assertEqual(why_not(VEE, 0, 2, [1]), ("road", [0, 1, 2]))
        self.assertEqual(why_not(CHAIN, 0, 2, [1]), ("beneath", [0, 1, 2], [1]))
        self.assertEqual(why_not([[], [0], [1], [1], [3]], 0, 2, [4]), ("beneath", [0, 1, 2], [1, 3, 4]))
        # Both fail: it is (a) that is told.
        self.assertEqual(self.check(MIXED, 1, 3, [4]), "beneath")

    def test_beneath_y_itself(self):
        self.assertEqual(why_not([[], [0], [1]], 0, 1, [2]), ("beneath", [0, 1], [1, 2]))

    def test_a_down_that_could_come_by_the_way_again(self):
        # 0 -> 1 -> 2 -> 3 and 1 -> 3: from 1 the down to 4 comes by 2, which is on ways too.
        self.assertEqual(self.check([[], [0], [1], [1, 2], [2]], 0, 3, [4]), "beneath")

    def test_by_chance(self):
        seen = {None: 0, "road": 0, "beneath": 0}
        for causes, x, y, some in some_questions(82, 500, (3, 4, 5, 6)):
            seen[self.check(causes, x, y, some)] += 1
        self.assertGreater(min(seen.values()), 30)

    def test_where_it_does_seeing_is_setting(self):
        source = source_of(83)
        seen = 0
        for causes, x, y, some in some_questions(84, 200, (3, 4, 5)):
            if does(causes, x, y, some):
                seen += len(some) > 0
                parts = random_book(source, causes, greatest=source.choice((3, 99)))
                for a in range(parts[0][x]):
                    whole = whole_of(set_by_hand(parts, x, a))
                    for b in range(parts[0][y]):
                        told = by_seeing(parts, x, a, y, b, some)
                        self.assertEqual(told, by_setting(parts, x, a, y, b))
                        self.assertEqual(Fraction(*told), sum_over(whole, view_with(len(causes), {y: b})))
        self.assertGreater(seen, 10)


class Against(unittest.TestCase):
    def check(self, sizes, causes, x, y, some):
        told = assert_own(self, against, sizes, causes, x, y, some)
        reason = why_not(causes, x, y, some)
        if reason is None:
            self.assertIsNone(told)
            return None
        made = book(sizes, causes, told)
        seeing, setting = by_seeing(made, x, 0, y, 0, some), by_setting(made, x, 0, y, 0)
        if reason[0] == "beneath":
            self.assertEqual((seeing, setting), ((4, 9), (2, 3)))
            return "beneath"
        self.assertEqual(setting, (1, 3))
        self.assertIn(seeing, ((1, 1), (5, 9)))
        return seeing

    def test_by_hand(self):
        self.assertEqual(assert_own(self, against, [2, 3, 2], CHAIN, 0, 2, [1]),
                         [[[1, 2]], [[2, 1, 0], [1, 2, 0]], [[1, 0], [0, 1], [1, 0]]])
        self.assertEqual(assert_own(self, against, [2, 2, 4], FORK, 0, 2, []),
                         [[[1, 0], [0, 1]], [[1, 2]], [[1, 0, 0, 0], [0, 1, 0, 0]]])
        self.assertIsNone(against([2, 2, 2], FORK, 0, 2, [1]))

    def test_small_ones(self):
        self.assertEqual(self.check([2] * 5, MIXED, 1, 3, [4]), "beneath")
        self.assertEqual(self.check([2, 3, 2, 4, 2], MIXED, 1, 3, []), (1, 1))
        self.assertEqual(self.check([4, 3, 2], VEE, 0, 2, [1]), (5, 9))
        self.assertEqual(self.check([2] * 5, [[], [0, 2], [], [2, 4], []], 0, 4, [3, 1]), (5, 9))
        self.assertIsNone(self.check([2] * 5, MIXED, 1, 3, [0]))

    def test_the_whole_shape_has_the_arrows_that_the_cut_one_lacks(self):
        # 1 -> 3 is cut; the road is 1 <- 0 -> 3, but 3 keeps its rows by 1.
        told = against([2, 2, 2, 2], [[], [0], [], [0, 1]], 1, 3, [])
        self.assertEqual(told[3], [[1, 0], [1, 0], [0, 1], [0, 1]])

    def test_by_chance(self):
        source = source_of(85)
        seen = {None: 0, "beneath": 0, (1, 1): 0, (5, 9): 0}
        for causes, x, y, some in some_questions(86, 250, (3, 4, 5, 6)):
            sizes = [source.choice((2, 3, 4)) if len(causes) < 5 else 2 for k in causes]
            seen[self.check(sizes, causes, x, y, some)] += 1
        self.assertGreater(min(seen.values()), 10)


class SetAmong(unittest.TestCase):
    def test_small_ones(self):
        self.assertEqual(assert_own(self, set_among, MIXED, 1, 3, [4, 3, 2, 1, 0]), [0])
        self.assertEqual(assert_own(self, set_among, [[], [0]], 0, 1, [1, 0]), [])
        self.assertIsNone(set_among(MIXED, 1, 3, [1, 3, 4, 2]))
        self.assertIsNone(set_among([[], [0]], 1, 0, [0, 1]))

    def test_above_in_the_cut_shape(self):
        # 4 is beneath 0 alone: neither above 1 nor above 3.
        self.assertEqual(set_among([[], [0], [1], [0, 2], [0]], 1, 3, [0, 4]), [0])

    def test_by_chance_against_all_lists(self):
        source = source_of(87)
        seen = [0, 0]
        for causes, x, y, some in some_questions(88, 250):
            among = source.sample(range(len(causes)), source.randint(0, len(causes)))
            told = assert_own(self, set_among, causes, x, y, among)
            usable = [k for k in among if k not in (x, y)]
            seen[told is None] += 1
            if told is None:
                for some in subsets(usable):
                    self.assertFalse(does_by_hand(causes, x, y, some))
                continue
            self.assertTrue(does_by_hand(causes, x, y, told))
            under_cut, under = under_of(cut_by_hand(causes, x, y)), under_of(causes)
            ruled_out = set().union(*[under[k] for k in on_ways_by_hand(causes, x, y)])
            self.assertEqual(told, sorted(k for k in usable if {x, y} & under_cut[k] and k not in ruled_out))
        self.assertGreater(min(seen), 20)


class LeastSet(unittest.TestCase):
    def test_small_ones(self):
        self.assertEqual(assert_own(self, least_set, MIXED, 1, 3, [0]), [0])
        self.assertIsNone(least_set(MIXED, 1, 3, []))
        self.assertIsNone(least_set(MIXED, 1, 3, [0, 2]))
        self.assertEqual(assert_own(self, least_set, [[], [], [0]], 0, 2, [1]), [])

    def test_the_greatest_goes_first(self):
        # 0 -> 1 -> 2 and 0 -> 3, 2 -> 3 is asked: either of 0 and 1 bars the road back.
        self.assertEqual(assert_own(self, least_set, [[], [0], [1], [0, 2]], 2, 3, [1, 0]), [0])

    def test_by_chance(self):
        seen = 0
        for causes, x, y, some in some_questions(89, 900, (3, 4, 5, 6)):
            told = assert_own(self, least_set, causes, x, y, some)
            if not does_by_hand(causes, x, y, some):
                self.assertIsNone(told)
                continue
            seen += len(told) > 0
            self.assertEqual(told, least_by_hand(some, lambda part: does_by_hand(causes, x, y, part)))
            for part in subsets(told):
                self.assertIs(does_by_hand(causes, x, y, part), part == told)
        self.assertGreater(seen, 15)


if __name__ == "__main__":
    unittest.main()
