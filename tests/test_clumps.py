"""Hidden and seen things: point [29], and what point [2] says of it."""

import itertools
import unittest

from causebook.clumps import above_in, clumps, is_hidden, seen_things
from helper import assert_own, hidden_shape, random_shape, source_of

# 0 and 1 are hidden; 2, 3, 4 are linked in a row by them, 2 -> 3 and 3 -> 5.
ROW = [[], [], [0], [0, 1, 2], [1], [3]]


def links_of(causes, hidden):
    found = set()
    for h in hidden:
        found |= set(itertools.permutations([k for k, own in enumerate(causes) if h in own], 2))
    return found


def clumps_by_hand(causes, hidden, some):
    links = links_of(causes, hidden)
    parts = [{k} for k in some]
    for one, other in links:
        if one in some and other in some:
            first, second = [next(part for part in parts if k in part) for k in (one, other)]
            if first is not second:
                parts.remove(second)
                first |= second
    return sorted(sorted(part) for part in parts)


class IsHidden(unittest.TestCase):
    def check(self, causes, hidden, wanted):
        self.assertIs(assert_own(self, is_hidden, causes, hidden), wanted)

    def test_the_empty_list(self):
        self.check([], [], True)
        self.check([[], [0]], [], True)

    def test_just_two_effects_and_no_causes(self):
        self.check([[], [0], [0]], [0], True)
        self.check(ROW, [0, 1], True)
        self.check(ROW, [0], True)

    def test_other_counts_of_effects(self):
        self.check([[]], [0], False)
        self.check([[], [0]], [0], False)
        self.check([[], [0], [0], [0]], [0], False)

    def test_causes(self):
        self.check([[], [0], [1], [1]], [1], False)
        self.check([[], [0], [1], [1]], [0], False)

    def test_each_of_the_list_must_be_so(self):
        self.check([[], [0], [0], []], [0, 3], False)
        self.check([[], [0], [0], [], [3], [3]], [0, 3], True)

    def test_by_chance(self):
        source = source_of(100)
        for turn in range(100):
            causes = random_shape(source, 5, thick=0.4)
            hidden = sorted(source.sample(range(5), source.randint(0, 2)))
            wanted = all(causes[k] == [] and sum(k in own for own in causes) == 2 for k in hidden)
            self.check(causes, hidden, wanted)


class SeenThings(unittest.TestCase):
    def test_all_others(self):
        self.assertEqual(assert_own(self, seen_things, [], []), [])
        self.assertEqual(assert_own(self, seen_things, [[], [0]], []), [0, 1])
        self.assertEqual(assert_own(self, seen_things, ROW, [0, 1]), [2, 3, 4, 5])
        self.assertEqual(assert_own(self, seen_things, [[2], [2], []], [2]), [0, 1])


class Clumps(unittest.TestCase):
    def check(self, causes, hidden, some, wanted):
        self.assertEqual(assert_own(self, clumps, causes, hidden, some), wanted)

    def test_of_none(self):
        self.check(ROW, [0, 1], [], [])
        self.check([], [], [], [])

    def test_things_alone(self):
        self.check([[], [0], [1]], [], [0, 1, 2], [[0], [1], [2]])
        self.check(ROW, [0, 1], [5], [[5]])

    def test_rows_of_links(self):
        self.check(ROW, [0, 1], [2, 3, 4, 5], [[2, 3, 4], [5]])

    def test_links_within_the_list_alone(self):
        self.check(ROW, [0, 1], [2, 4, 5], [[2], [4], [5]])
        self.check(ROW, [0, 1], [3, 4], [[3, 4]])

    def test_in_the_order_of_their_least_things(self):
        # 4 hides above 0 and 3, 5 above 1 and 2.
        self.check([[4], [5], [5], [4], [], []], [4, 5], [0, 1, 2, 3], [[0, 3], [1, 2]])

    def test_a_thing_that_is_not_hidden_links_nothing(self):
        self.check([[], [0], [0]], [], [1, 2], [[1], [2]])
        self.check([[], [0], [0]], [0], [1, 2], [[1, 2]])

    def test_by_chance(self):
        source = source_of(101)
        for turn in range(150):
            causes, hidden = hidden_shape(source, source.choice((2, 4, 6)), source.choice((0, 1, 2, 4)))
            seen = [k for k in range(len(causes)) if k not in hidden]
            for some in (seen, sorted(source.sample(seen, len(seen) // 2)), sorted(source.sample(seen, len(seen) - 1))):
                self.check(causes, hidden, some, clumps_by_hand(causes, hidden, some))


class AboveWithin(unittest.TestCase):
    CHAIN = [[], [0], [1], [2]]

    def test_small_ones(self):
        self.assertEqual(assert_own(self, above_in, self.CHAIN, [], []), [])
        self.assertEqual(assert_own(self, above_in, self.CHAIN, [3], [0, 1, 2, 3]), [0, 1, 2, 3])
        self.assertEqual(assert_own(self, above_in, self.CHAIN, [1], [0, 1, 2, 3]), [0, 1])
        self.assertEqual(assert_own(self, above_in, self.CHAIN, [3, 0], [0, 1, 3]), [0, 3])

    def test_ways_that_leave_the_list_do_not_count(self):
        self.assertEqual(assert_own(self, above_in, self.CHAIN, [3], [0, 1, 3]), [3])
        self.assertEqual(assert_own(self, above_in, self.CHAIN, [3], [0, 2, 3]), [2, 3])

    def test_by_chance(self):
        source = source_of(102)
        for turn in range(150):
            causes = random_shape(source, source.choice((1, 3, 6, 9)))
            within = sorted(source.sample(range(len(causes)), source.randint(0, len(causes))))
            some = source.sample(within, source.randint(0, len(within)))
            found = set(some)
            for k in within:
                for other in list(found):
                    found |= set(causes[other]) & set(within)
            self.assertEqual(assert_own(self, above_in, causes, some, within), sorted(found))


if __name__ == "__main__":
    unittest.main()
