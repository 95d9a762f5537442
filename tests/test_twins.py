"""Twins: points [34] to [36], what [3] says of them, and what [2] says of them."""

import unittest

from causebook.books import book
from causebook.recipes import recipe, seen_sheet, stuck
from causebook.setting import by_setting
from causebook.twins import feeds, relays, tree, twins
from helper import assert_own, hidden_shape, seen_of, source_of, worlds_of

# x -> y, u above both.
BOW = ([[2], [0, 2], []], [2], 0, 1)
# x -> z -> y, u above x and z.
BENT = ([[3], [0, 3], [1], []], [3], 0, 2)
# x -> w -> y, u above w and x, v above x and y, and y is linked to w by a third.
THREE = ([[3, 4], [0, 3, 5], [1, 4, 5], [], [], []], [3, 4, 5], 0, 2)
# 0 -> 1 -> 2 -> 3, a hidden one above each two neighbours.
ROW = ([[4], [0, 4, 5], [1, 5, 6], [2, 6], [], [], []], [4, 5, 6], 0, 3)


def ends_of(causes, h):
    return [k for k, own in enumerate(causes) if h in own]


def counts_of(causes, hidden, x, y):
    within, found = set(seen_of(causes, hidden)) - {x}, {y}
    for turn in causes:
        for k in list(found):
            found |= set(causes[k]) & within
    return sorted(found)


def steps_within(causes, k, goals, within):
    """How many arrows the shortest way from k to one of the goals has, all of it within; None if there is none."""
    rim, steps = {k}, 0
    for turn in range(len(causes) + 1):
        if rim & set(goals):
            return steps
        rim = {e for e in within if set(causes[e]) & rim}
        steps += 1
    return None


def nearer_by_hand(causes, k, goals, within):
    steps = steps_within(causes, k, goals, within)
    for e in sorted(within):
        if k in causes[e] and steps_within(causes, e, goals, within) == steps - 1:
            return e
    return None


def tree_by_hand(causes, hidden, small, great):
    part_of = {k: k for k in great}
    taken = []
    for some in (small, great):
        for h in sorted(hidden):
            one, other = ends_of(causes, h)
            if {one, other} <= set(some) and part_of[one] != part_of[other]:
                taken.append(h)
                gone = part_of[other]
                part_of = {k: part_of[one] if part == gone else part for k, part in part_of.items()}
    return sorted(taken)


def feeds_by_hand(causes, small, great):
    found = []
    for k in range(len(causes)):
        if k in small:
            inner = [e for e in sorted(small) if k in causes[e]]
            found.append(inner[0] if inner else None)
        elif k in great:
            found.append(nearer_by_hand(causes, k, small, great))
        else:
            found.append(None)
    return found


def relays_by_hand(causes, hidden, x, y):
    counts = counts_of(causes, hidden, x, y)
    return [nearer_by_hand(causes, k, [y], counts) if k in counts and k != y else None for k in range(len(causes))]


def twin_by_hand(causes, hidden, x, y, second):
    """The tables of point [36], weight by weight."""
    small, great = stuck(causes, hidden, x, y)
    grown, fed = tree_by_hand(causes, hidden, small, great), feeds_by_hand(causes, small, great)
    passed = relays_by_hand(causes, hidden, x, y)
    roots = [k for k in small if fed[k] is None]
    sizes = [2 if k in hidden else 4 for k in range(len(causes))]
    tables = []
    for k, own in enumerate(causes):
        if k in hidden:
            tables.append([[1, 1]])
            continue
        table = []
        for values in worlds_of([sizes[c] for c in own]):
            at = dict(zip(own, values))
            main, relay = 0, 0
            if k in great:
                only_small = second and k in small
                for c in own:
                    if c in hidden:
                        if c in grown and (not only_small or set(ends_of(causes, c)) <= set(small)):
                            main += at[c]
                    elif fed[c] == k and (not only_small or c in small):
                        main += at[c] // 2
            for c in own:
                if c not in hidden and passed[c] == k:
                    relay += at[c] % 2 + (at[c] // 2 if c in roots else 0)
            sure = k in great and k != min(roots)
            row = []
            for value in range(4):
                weight = (1 if value // 2 == main % 2 else 0) if sure else (3 if value // 2 == main % 2 else 1)
                row.append(weight * (3 if value % 2 == relay % 2 else 1))
            table.append(row)
        tables.append(table)
    return tables


def stuck_shapes(seed, turns, sizes=(2, 3, 4)):
    source = source_of(seed)
    found = 0
    while found < turns:
        causes, hidden = hidden_shape(source, source.choice(sizes), source.choice((1, 2, 3)), source.choice((0.5, 0.9)))
        x, y = source.sample(seen_of(causes, hidden), 2)
        if stuck(causes, hidden, x, y) is not None:
            found += 1
            yield causes, hidden, x, y


class TheTree(unittest.TestCase):
    def test_by_hand(self):
        self.assertEqual(assert_own(self, tree, BOW[0], BOW[1], [1], [0, 1]), [2])
        self.assertEqual(assert_own(self, tree, THREE[0], THREE[1], [1, 2], [0, 1, 2]), [3, 5])
        self.assertEqual(assert_own(self, tree, ROW[0], ROW[1], [1, 2, 3], [0, 1, 2, 3]), [4, 5, 6])

    def test_those_with_both_effects_in_the_small_one_come_first(self):
        # 4 and 6 would be taken first by their numbers; 5, within the small one, is.
        causes = [[4, 6], [4, 5], [5, 6], [], [], [], []]
        self.assertEqual(assert_own(self, tree, causes, [4, 5, 6], [1, 2], [0, 1, 2]), [4, 5])
        # Two above the same pair: the lesser is taken alone.
        self.assertEqual(assert_own(self, tree, [[2, 3], [0, 2, 3], [], []], [2, 3], [1], [0, 1]), [2])

    def test_those_with_an_effect_outside_are_left(self):
        causes = [[3], [0, 3, 4], [4], [], []]
        self.assertEqual(assert_own(self, tree, causes, [3, 4], [1], [0, 1]), [3])

    def test_by_chance(self):
        for causes, hidden, x, y in stuck_shapes(130, 150, (2, 3, 4, 6)):
            small, great = stuck(causes, hidden, x, y)
            told = assert_own(self, tree, causes, hidden, small, great)
            self.assertEqual(told, tree_by_hand(causes, hidden, small, great))
            # A tree that joins all has one link fewer than things; so has the part of it within the small one.
            self.assertEqual(len(told), len(great) - 1)
            self.assertEqual(len([h for h in told if set(ends_of(causes, h)) <= set(small)]), len(small) - 1)


class TheFeeds(unittest.TestCase):
    def test_by_hand(self):
        self.assertEqual(assert_own(self, feeds, BOW[0], [1], [0, 1]), [1, None, None])
        self.assertEqual(assert_own(self, feeds, THREE[0], [1, 2], [0, 1, 2]), [1, 2, None, None, None, None])
        self.assertEqual(assert_own(self, feeds, ROW[0], [1, 2, 3], [0, 1, 2, 3]), [1, 2, 3] + [None] * 4)

    def test_nearer_before_least(self):
        # 0 -> 1 -> 2 and 0 -> 2: from 0 the effect 2 is at the goal, 1 is not nearer.
        self.assertEqual(feeds([[], [0], [0, 1]], [2], [0, 1, 2]), [2, 2, None])
        # Of the two that are one step nearer the least.
        self.assertEqual(feeds([[], [0], [0], [1, 2]], [3], [0, 1, 2, 3]), [1, 3, 3, None])

    def test_the_least_effect_within_the_small_one(self):
        self.assertEqual(feeds([[], [0], [0, 1], [0]], [0, 2, 3], [0, 1, 2, 3]), [2, 2, None, None])

    def test_by_chance(self):
        for causes, hidden, x, y in stuck_shapes(131, 150, (2, 3, 4, 6)):
            small, great = stuck(causes, hidden, x, y)
            self.assertEqual(assert_own(self, feeds, causes, small, great), feeds_by_hand(causes, small, great))


class TheRelays(unittest.TestCase):
    def test_by_hand(self):
        self.assertEqual(assert_own(self, relays, *BOW), [None, None, None])
        self.assertEqual(assert_own(self, relays, *BENT), [None, 2, None, None])
        self.assertEqual(assert_own(self, relays, *ROW), [None, 2, 3] + [None] * 4)
        # 1 -> 2 -> 3 and 1 -> 3: the nearer one.
        self.assertEqual(assert_own(self, relays, [[], [0], [1], [1, 2]], [], 0, 3), [None, 3, 3, None])
        # What is above y by x alone relays nothing.
        self.assertEqual(assert_own(self, relays, [[], [0], [1]], [], 1, 2), [None, None, None])

    def test_by_chance(self):
        source = source_of(132)
        for turn in range(150):
            causes, hidden = hidden_shape(source, source.choice((2, 4, 6)), source.choice((0, 1, 3)), 0.6)
            x, y = source.sample(seen_of(causes, hidden), 2)
            self.assertEqual(assert_own(self, relays, causes, hidden, x, y), relays_by_hand(causes, hidden, x, y))


class TheTwins(unittest.TestCase):
    def check(self, causes, hidden, x, y):
        told = assert_own(self, twins, causes, hidden, x, y)
        self.assertIs(type(told), tuple)
        sizes, tables, others = told
        self.assertEqual(sizes, [2 if k in hidden else 4 for k in range(len(causes))])
        self.assertEqual(tables, twin_by_hand(causes, hidden, x, y, False))
        self.assertEqual(others, twin_by_hand(causes, hidden, x, y, True))
        return book(sizes, causes, tables), book(sizes, causes, others)

    def check_promise(self, causes, hidden, x, y):
        one, other = self.check(causes, hidden, x, y)
        sheet = seen_sheet(one, hidden)
        self.assertEqual(sheet, seen_sheet(other, hidden))
        self.assertGreater(min(share[0] for share in sheet), 0)
        for a in range(4):
            chances = [by_setting(one, x, a, y, b) for b in range(4)]
            self.assertNotEqual(chances, [by_setting(other, x, a, y, b) for b in range(4)])

    def test_the_bow_by_hand(self):
        told = twins(*BOW)
        x_table = [[3, 1, 0, 0], [0, 0, 3, 1]]
        y_table = [[9, 3, 3, 1], [3, 1, 9, 3], [9, 3, 3, 1], [3, 1, 9, 3],
                   [3, 1, 9, 3], [9, 3, 3, 1], [3, 1, 9, 3], [9, 3, 3, 1]]
        self.assertEqual(told, ([4, 4, 2], [x_table, y_table, [[1, 1]]], [x_table, [[9, 3, 3, 1]] * 8, [[1, 1]]]))

    def test_the_smallest_stuck_shapes(self):
        for question in (BOW, BENT, THREE, ROW):
            self.check_promise(*question)

    def test_other_numbers(self):
        # The bow with all numbers turned round.
        self.check_promise([[], [0, 2], [0]], [0], 2, 1)
        self.check_promise([[1, 2], [2], []], [2], 1, 0)

    def test_by_chance(self):
        for causes, hidden, x, y in stuck_shapes(133, 50, (2, 3, 3)):
            self.check_promise(causes, hidden, x, y)

    def test_greater_ones(self):
        for causes, hidden, x, y in stuck_shapes(134, 4, (4,)):
            self.check_promise(causes, hidden, x, y)

    def test_tables_of_far_greater_ones(self):
        for causes, hidden, x, y in stuck_shapes(135, 12, (6, 8)):
            self.check(causes, hidden, x, y)

    def test_none_where_there_is_a_recipe(self):
        self.assertIsNone(twins([[], [0], [0, 1]], [], 1, 2))
        self.assertIsNone(twins([[3], [0], [1, 3], []], [3], 0, 2))
        source = source_of(136)
        seen = 0
        for turn in range(150):
            causes, hidden = hidden_shape(source, source.choice((2, 3, 5)), source.choice((0, 1, 2)), 0.6)
            x, y = source.sample(seen_of(causes, hidden), 2)
            told = assert_own(self, twins, causes, hidden, x, y)
            self.assertEqual(told is None, recipe(causes, hidden, x, y) is not None)
            seen += told is None
        self.assertGreater(seen, 30)


if __name__ == "__main__":
    unittest.main()
