"""The reach: points [17], [18] and [20], what [3] says of barred roads, and what [2] says of all this."""

import unittest

from causebook.reach import barred, is_closed, least_parting, parting, reach, silent
from helper import (CHAIN, FORK, VEE, all_shapes, assert_own, barred_by_roads, least_by_hand, random_book,
                    random_question, random_shape, some_questions, source_of, subsets, sum_over, view_with, whole_of,
                    worlds_of)

# 0 -> 2 <- 1, and 2 -> 3 -> 4.
DEEP_VEE = [[], [], [0, 1], [2], [3]]


def reach_by_hand(causes, x, known):
    """The steps of point [17], taken until none leads to a new tuple."""
    found = {(x, 0)}
    while True:
        more = set()
        for v, way in found:
            if way == 0 and v not in known or way == 1 and v in known:
                more |= {(c, 0) for c in causes[v]}
            if v not in known:
                more |= {(e, 1) for e in range(len(causes)) if v in causes[e]}
        if more <= found:
            return sorted(found)
        found |= more


class TheReach(unittest.TestCase):
    def test_by_hand(self):
        self.assertEqual(assert_own(self, reach, [[]], 0, []), [(0, 0)])
        self.assertEqual(assert_own(self, reach, CHAIN, 0, []), [(0, 0), (1, 1), (2, 1)])
        self.assertEqual(assert_own(self, reach, CHAIN, 2, []), [(0, 0), (1, 0), (1, 1), (2, 0), (2, 1)])
        self.assertEqual(assert_own(self, reach, CHAIN, 0, [1]), [(0, 0), (1, 1)])
        self.assertEqual(assert_own(self, reach, FORK, 0, [1]), [(0, 0), (1, 0)])
        self.assertEqual(assert_own(self, reach, VEE, 0, []), [(0, 0), (1, 1)])
        self.assertEqual(assert_own(self, reach, VEE, 0, [1]), [(0, 0), (1, 1), (2, 0)])

    def test_a_known_thing_beneath_turns_one_back(self):
        self.assertEqual(reach(DEEP_VEE, 0, [4]),
                         [(0, 0), (1, 0), (2, 0), (2, 1), (3, 0), (3, 1), (4, 1)])
        self.assertEqual(reach(DEEP_VEE, 0, [4, 2]), [(0, 0), (1, 0), (2, 1)])

    def test_known_things_come_against_an_arrow_stop(self):
        self.assertEqual(reach([[1], [2], []], 0, [1]), [(0, 0), (1, 0)])

    def test_by_chance(self):
        for causes, x, y, known in some_questions(50, 200, (2, 4, 7, 12)):
            told = assert_own(self, reach, causes, x, known)
            self.assertEqual(told, reach_by_hand(causes, x, known))
            self.assertEqual(told, sorted(set(told)))
            self.assertIn((x, 0), told)
            for one in told:
                self.assertIs(type(one), tuple)


class Closed(unittest.TestCase):
    def test_small_ones(self):
        self.assertIs(is_closed(CHAIN, [], []), True)
        self.assertIs(is_closed(CHAIN, [], [(2, 1)]), True)
        self.assertIs(is_closed(CHAIN, [], [(1, 1)]), False)
        self.assertIs(is_closed(CHAIN, [1], [(1, 1)]), False)
        self.assertIs(is_closed(CHAIN, [1], [(1, 0)]), True)
        self.assertIs(is_closed(CHAIN, [], [(2, 1), (1, 1)]), True)
        self.assertIs(is_closed([[]], [], [(0, 0)]), True)
        self.assertIs(is_closed([], [], []), True)

    def test_in_any_order_and_told_twice(self):
        self.assertIs(is_closed(CHAIN, [], [(1, 1), (2, 1), (1, 1)]), True)

    def test_the_reach_and_the_reach_without_one(self):
        for causes, x, y, known in some_questions(51, 150, (2, 4, 7, 12)):
            told = reach(causes, x, known)
            self.assertIs(assert_own(self, is_closed, causes, known, told), True)
            for one in told:
                rest = [other for other in told if other != one]
                if one != (x, 0):
                    self.assertIs(is_closed(causes, known, rest), False)
                self.assertIs(is_closed(causes, known, rest), closed_by_hand(causes, known, rest))

    def test_any_list(self):
        source = source_of(52)
        for causes, x, y, known in some_questions(53, 150, (2, 3, 4)):
            every = [(k, way) for k in range(len(causes)) for way in (0, 1)]
            some = source.sample(every, source.randint(0, len(every)))
            self.assertIs(is_closed(causes, known, some), closed_by_hand(causes, known, some))


def closed_by_hand(causes, known, pairs):
    for v, way in pairs:
        steps = set()
        if way == 0 and v not in known or way == 1 and v in known:
            steps |= {(c, 0) for c in causes[v]}
        if v not in known:
            steps |= {(e, 1) for e in range(len(causes)) if v in causes[e]}
        if not steps <= set(pairs):
            return False
    return True


class Barred(unittest.TestCase):
    def both_ways(self, causes, x, y, known, wanted):
        self.assertIs(assert_own(self, barred, causes, x, y, known), wanted)
        self.assertIs(assert_own(self, barred, causes, y, x, known), wanted)

    def test_small_ones(self):
        self.both_ways([[], []], 0, 1, [], True)
        self.both_ways([[], [0]], 0, 1, [], False)
        self.both_ways(CHAIN, 0, 2, [], False)
        self.both_ways(CHAIN, 0, 2, [1], True)
        self.both_ways(FORK, 0, 2, [], False)
        self.both_ways(FORK, 0, 2, [1], True)
        self.both_ways(VEE, 0, 2, [], True)
        self.both_ways(VEE, 0, 2, [1], False)

    def test_a_known_thing_beneath_a_vee(self):
        self.both_ways(DEEP_VEE, 0, 1, [], True)
        for known in ([2], [3], [4], [4, 3]):
            self.both_ways(DEEP_VEE, 0, 1, known, False)
        self.both_ways(DEEP_VEE, 0, 4, [3], True)

    def test_an_m_of_two_vees(self):
        # 0 -> 1 <- 2 -> 3 <- 4
        causes = [[], [0, 2], [], [2, 4], []]
        self.both_ways(causes, 0, 4, [], True)
        self.both_ways(causes, 0, 4, [1], True)
        self.both_ways(causes, 0, 4, [1, 3], False)
        self.both_ways(causes, 0, 4, [3, 2, 1], True)

    def test_all_shapes_of_four_against_all_roads(self):
        for causes in all_shapes(4):
            for known in subsets([2, 3]):
                self.assertIs(barred(causes, 0, 1, known), barred_by_roads(causes, 0, 1, known))

    def test_by_chance_against_all_roads(self):
        for causes, x, y, known in some_questions(54, 250, (4, 5, 6, 7)):
            self.both_ways(causes, x, y, known, barred_by_roads(causes, x, y, known))

    def test_where_barred_the_chances_are_so(self):
        source = source_of(55)
        seen = 0
        for causes, x, y, known in some_questions(56, 150, (3, 4, 5)):
            if not barred(causes, x, y, known):
                continue
            seen += 1
            book = random_book(source, causes, noughts=source.choice((0.0, 0.4)))
            assert_silent_sums(self, book, [x], [y], known)
        self.assertGreater(seen, 25)


def assert_silent_sums(test, book, ones, others, known):
    """p(x, y, k) p(k) = p(x, k) p(y, k) for all values of the lists."""
    whole, sizes = whole_of(book), book[0]
    for values in worlds_of([sizes[k] for k in known]):
        here = dict(zip(known, values))
        ground = sum_over(whole, view_with(len(sizes), here))
        for one_values in worlds_of([sizes[k] for k in ones]):
            first = dict(zip(ones, one_values))
            one = sum_over(whole, view_with(len(sizes), here | first))
            for other_values in worlds_of([sizes[k] for k in others]):
                second = dict(zip(others, other_values))
                other = sum_over(whole, view_with(len(sizes), here | second))
                both = sum_over(whole, view_with(len(sizes), here | first | second))
                test.assertEqual(both * ground, one * other)


class Silent(unittest.TestCase):
    def test_small_ones(self):
        self.assertIs(silent(CHAIN, [], [], []), True)
        self.assertIs(silent(CHAIN, [0], [], [1]), True)
        self.assertIs(silent(CHAIN, [], [2, 0], []), True)
        self.assertIs(silent(CHAIN, [0], [2], [1]), True)
        self.assertIs(silent(CHAIN, [0], [2], []), False)
        self.assertIs(silent(DEEP_VEE, [0], [1], []), True)
        self.assertIs(silent(DEEP_VEE, [0], [1, 2], []), False)
        self.assertIs(silent(DEEP_VEE, [1, 0], [4], [3]), True)
        self.assertIs(silent(DEEP_VEE, [2, 0, 1], [4], [3]), True)

    def test_by_chance(self):
        source = source_of(57)
        seen = 0
        for turn in range(200):
            causes = random_shape(source, source.choice((3, 4, 5)), thick=0.4)
            things = source.sample(range(len(causes)), len(causes))
            cut, end = sorted((source.randint(0, 2), source.randint(1, len(causes))))
            ones, others, known = things[:cut], things[cut:end], things[end:]
            wanted = all(barred_by_roads(causes, x, y, known) for x in ones for y in others)
            self.assertIs(assert_own(self, silent, causes, ones, others, known), wanted)
            self.assertIs(silent(causes, others, ones, known), wanted)
            if wanted and len(ones) * len(others) > 1:
                seen += 1
                assert_silent_sums(self, random_book(source, causes, [2] * len(causes), noughts=0.2), ones, others,
                                   known)
        self.assertGreater(seen, 10)


class Parting(unittest.TestCase):
    def test_small_ones(self):
        self.assertEqual(assert_own(self, parting, CHAIN, 0, 2, [1]), [1])
        self.assertEqual(assert_own(self, parting, CHAIN, 0, 2, [2, 1, 0]), [1])
        self.assertIsNone(parting(CHAIN, 0, 2, []))
        self.assertIsNone(parting(CHAIN, 0, 2, [0, 2]))
        self.assertIsNone(parting([[], [0]], 0, 1, [0, 1]))
        # What lies beneath a V is not above x or y.
        self.assertEqual(assert_own(self, parting, VEE, 0, 2, [1]), [])
        self.assertEqual(assert_own(self, parting, DEEP_VEE, 0, 1, [4, 3, 2, 1, 0]), [])
        self.assertEqual(assert_own(self, parting, [[], [0], [0, 1], [1, 2]], 0, 3, [3, 2, 1]), [1, 2])

    def test_by_chance_against_all_lists(self):
        source = source_of(58)
        for turn in range(200):
            causes = random_shape(source, source.choice((2, 3, 4, 5, 6)), thick=source.choice((0.3, 0.6)))
            x, y, rest = random_question(source, len(causes), 0)
            among = source.sample(range(len(causes)), source.randint(0, len(causes)))
            told = assert_own(self, parting, causes, x, y, among)
            usable = [k for k in among if k not in (x, y)]
            if told is None:
                for some in subsets(usable):
                    self.assertFalse(barred_by_roads(causes, x, y, some))
            else:
                self.assertTrue(barred_by_roads(causes, x, y, told))
                over = set(over_of(causes, [x, y]))
                self.assertEqual(told, sorted(k for k in usable if k in over))


def over_of(causes, some):
    found = set(some)
    for turn in causes:
        for k in list(found):
            found |= set(causes[k])
    return found


class LeastParting(unittest.TestCase):
    def test_small_ones(self):
        self.assertEqual(assert_own(self, least_parting, CHAIN, 0, 2, [1]), [1])
        self.assertEqual(assert_own(self, least_parting, [[], []], 0, 1, []), [])
        self.assertIsNone(least_parting(CHAIN, 0, 2, []))
        self.assertIsNone(least_parting(VEE, 0, 2, [1]))

    def test_the_greatest_goes_first(self):
        # 0 -> 1 -> 2 -> 3: either of the inner two does; the greater one is gone.
        self.assertEqual(least_parting([[], [0], [1], [2]], 0, 3, [2, 1]), [1])

    def test_gone_through_again(self):
        # 2 -> 0 <- 1 <- 3: while 0 is known 1 can't go; when 0 has gone 1 can, in the second round.
        self.assertEqual(assert_own(self, least_parting, [[1, 2], [3], [], []], 2, 3, [1, 0]), [])

    def test_by_chance(self):
        seen = 0
        for causes, x, y, known in some_questions(60, 900, (3, 4, 5, 6)):
            told = assert_own(self, least_parting, causes, x, y, known)
            if not barred_by_roads(causes, x, y, known):
                self.assertIsNone(told)
                continue
            seen += len(told) > 0
            self.assertEqual(told, least_by_hand(known, lambda some: barred_by_roads(causes, x, y, some)))
            self.assertLessEqual(set(told), set(known))
            self.assertTrue(barred(causes, x, y, told))
            for some in subsets(told):
                if some != told:
                    self.assertFalse(barred_by_roads(causes, x, y, some))
        self.assertGreater(seen, 20)


if __name__ == "__main__":
    unittest.main()
