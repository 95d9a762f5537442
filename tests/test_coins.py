"""Coins: points [21] and [22], what [3] says of open roads, and what [2] says of all this."""

import unittest

from causebook.books import book
from causebook.coins import hanging, road_plan, tables_by
from causebook.reach import barred
from causebook.roads import open_road
from helper import (CHAIN, FORK, VEE, assert_own, random_question, random_shape, source_of, sum_over, view_with,
                    whole_of, worlds_of)


def row_by_hand(size, own, values, part):
    """A row by the words of point [21], weight by weight."""
    at = dict(zip(own, values))
    row = []
    for value in range(size):
        weight = 0
        if part == ("still",):
            weight = 1 if value == 0 else 0
        if part == ("coin",):
            weight = {0: 1, 1: 2}.get(value, 0)
        if part[0] == "sum":
            weight = 1 if value == sum(at[feeder] for feeder in part[1]) % 2 else 0
        if part[0] == "near" and value in (0, 1):
            weight = 2 if value == at[part[1]] % 2 else 1
        row.append(weight)
    return row


def random_plan(source, causes):
    plan = []
    for own in causes:
        choices = [("still",), ("coin",)]
        if own:
            choices.append(("sum", sorted(source.sample(own, source.randint(1, len(own))))))
            choices.append(("sum", list(own)))
            choices.append(("near", source.choice(own)))
        plan.append(source.choice(choices))
    return plan


class TablesByAPlan(unittest.TestCase):
    def test_without_causes(self):
        self.assertEqual(assert_own(self, tables_by, [], [], []), [])
        self.assertEqual(assert_own(self, tables_by, [2, 3, 4], [[], [], []], [("still",)] * 3),
                         [[[1, 0]], [[1, 0, 0]], [[1, 0, 0, 0]]])
        self.assertEqual(assert_own(self, tables_by, [2, 3, 4], [[], [], []], [("coin",)] * 3),
                         [[[1, 2]], [[1, 2, 0]], [[1, 2, 0, 0]]])

    def test_still_and_coin_in_each_row(self):
        self.assertEqual(assert_own(self, tables_by, [3, 2], [[], [0]], [("coin",), ("still",)]),
                         [[[1, 2, 0]], [[1, 0], [1, 0], [1, 0]]])
        self.assertEqual(assert_own(self, tables_by, [2, 3], [[], [0]], [("still",), ("coin",)]),
                         [[[1, 0]], [[1, 2, 0], [1, 2, 0]]])

    def test_sum(self):
        told = assert_own(self, tables_by, [2, 2, 3], [[], [], [0, 1]], [("coin",), ("coin",), ("sum", [0, 1])])
        self.assertEqual(told[2], [[1, 0, 0], [0, 1, 0], [0, 1, 0], [1, 0, 0]])
        told = assert_own(self, tables_by, [2, 2, 2], [[], [], [0, 1]], [("coin",), ("coin",), ("sum", [1])])
        self.assertEqual(told[2], [[1, 0], [0, 1], [1, 0], [0, 1]])
        told = assert_own(self, tables_by, [4, 2], [[], [0]], [("coin",), ("sum", [0])])
        self.assertEqual(told[1], [[1, 0], [0, 1], [1, 0], [0, 1]])

    def test_near(self):
        told = assert_own(self, tables_by, [4, 3], [[], [0]], [("coin",), ("near", 0)])
        self.assertEqual(told[1], [[2, 1, 0], [1, 2, 0], [2, 1, 0], [1, 2, 0]])
        told = assert_own(self, tables_by, [2, 2, 2], [[1, 2], [], []], [("near", 1), ("coin",), ("still",)])
        self.assertEqual(told[0], [[2, 1], [2, 1], [1, 2], [1, 2]])

    def test_by_chance(self):
        source = source_of(70)
        for turn in range(80):
            causes = random_shape(source, source.choice((1, 3, 5, 7)), thick=0.7)
            sizes = [source.choice((2, 3, 4)) for own in causes]
            plan = random_plan(source, causes)
            told = assert_own(self, tables_by, sizes, causes, plan)
            wanted = []
            for k, own in enumerate(causes):
                values = worlds_of([sizes[c] for c in own])
                wanted.append([row_by_hand(sizes[k], own, world, plan[k]) for world in values])
            self.assertEqual(told, wanted)
            self.assertEqual(book(sizes, causes, told), (sizes, causes, told))

    def test_five_causes_of_four_values(self):
        causes = [[] for k in range(5)] + [[0, 1, 2, 3, 4]]
        told = tables_by([4] * 6, causes, [("coin",)] * 5 + [("sum", [0, 2, 4])])
        self.assertEqual(len(told[5]), 1024)
        for values, row in zip(worlds_of([4] * 5), told[5]):
            self.assertEqual(row, row_by_hand(4, causes[5], values, ("sum", [0, 2, 4])))


class ThePlanOfARoad(unittest.TestCase):
    def test_by_hand(self):
        self.assertEqual(assert_own(self, road_plan, CHAIN, [0, 1, 2], []), [("coin",), ("sum", [0]), ("sum", [1])])
        self.assertEqual(assert_own(self, road_plan, CHAIN, [2, 1, 0], []), [("coin",), ("sum", [0]), ("sum", [1])])
        self.assertEqual(assert_own(self, road_plan, FORK, [0, 1, 2], []), [("sum", [1]), ("coin",), ("sum", [1])])
        self.assertEqual(assert_own(self, road_plan, VEE, [0, 1, 2], [1]), [("coin",), ("sum", [0, 2]), ("coin",)])

    def test_downs_and_still_things(self):
        # 0 -> 2 <- 1, 2 -> 3 -> 4, and 5 beside them.
        causes = [[], [], [0, 1], [2, 5], [3], []]
        self.assertEqual(assert_own(self, road_plan, causes, [1, 2, 0], [4]),
                         [("coin",), ("coin",), ("sum", [0, 1]), ("sum", [2]), ("sum", [3]), ("still",)])

    def test_causes_that_are_not_neighbours_on_the_road_feed_nothing(self):
        # 0 is a cause of all; the road goes 0, 1, 2, 3 only where 0 -> 2 and 0 -> 3 are passed by.
        causes = [[], [0], [0, 1], [0, 2]]
        self.assertEqual(assert_own(self, road_plan, causes, [0, 1, 2, 3], []),
                         [("coin",), ("sum", [0]), ("sum", [1]), ("sum", [2])])
        # 0 <- 1 -> 2 <- 3 with 2 known: that 2 is a cause of 0 too is no part of the road.
        causes = [[1, 2], [], [1, 3], []]
        self.assertEqual(open_road(causes, 0, 3, [2]), [0, 1, 2, 3])
        self.assertEqual(assert_own(self, road_plan, causes, [0, 1, 2, 3], [2]),
                         [("sum", [1]), ("coin",), ("sum", [1, 3]), ("coin",)])
        self.assertEqual(assert_own(self, road_plan, causes, [3, 2, 1, 0], [2]),
                         [("sum", [1]), ("coin",), ("sum", [1, 3]), ("coin",)])


class Hanging(unittest.TestCase):
    def check(self, sizes, causes, x, y, known):
        told = assert_own(self, hanging, sizes, causes, x, y, known)
        if told is None:
            self.assertTrue(barred(causes, x, y, known))
            return False
        self.assertFalse(barred(causes, x, y, known))
        road = open_road(causes, x, y, known)
        self.assertEqual(told, tables_by(sizes, causes, road_plan(causes, road, known)))
        whole = whole_of((sizes, causes, told))
        found = set()
        for world, chance in whole.items():
            if chance > 0 and all(world[k] == 0 for k in known):
                self.assertEqual(world[x], world[y])
                found.add(world[x])
        self.assertEqual(found, {0, 1})
        # So they do tell of each other where those are known.
        zeros = {k: 0 for k in known}
        ground = sum_over(whole, view_with(len(sizes), zeros))
        one = sum_over(whole, view_with(len(sizes), zeros | {x: 0}))
        both = sum_over(whole, view_with(len(sizes), zeros | {x: 0, y: 0}))
        self.assertNotEqual(both * ground, one * one)
        return True

    def test_small_ones(self):
        self.assertTrue(self.check([2, 2, 2], CHAIN, 0, 2, []))
        self.assertTrue(self.check([2, 3, 4], FORK, 2, 0, []))
        self.assertTrue(self.check([4, 3, 2], VEE, 0, 2, [1]))
        self.assertFalse(self.check([2, 2, 2], VEE, 0, 2, []))
        self.assertFalse(self.check([2, 2, 2], CHAIN, 0, 2, [1]))

    def test_two_vees(self):
        self.assertTrue(self.check([2] * 7, [[], [0, 2], [], [2, 4], [], [1], [3]], 0, 4, [6, 5]))
        self.assertTrue(self.check([2] * 8, [[], [0, 2], [], [2, 4], [], [1], [3], [6]], 4, 0, [7, 5]))

    def test_by_chance(self):
        source = source_of(71)
        seen = 0
        for turn in range(150):
            number = source.choice((2, 3, 4, 5, 6))
            causes = random_shape(source, number, thick=source.choice((0.3, 0.6)))
            sizes = [source.choice((2, 3, 4)) if number < 5 else 2 for k in range(number)]
            x, y, known = random_question(source, number)
            seen += self.check(sizes, causes, x, y, known)
        self.assertGreater(seen, 40)


if __name__ == "__main__":
    unittest.main()
