"""The likeliest: point [28], what [3] says of it, and what [2] says of it."""

import itertools
import unittest
from fractions import Fraction

from causebook.errors import NoGround, NoOrder
from causebook.likeliest import best_chance, likeliest, topped, tops
from helper import (CHAIN, assert_own, assert_refused, fits, pair, random_book, random_shape, random_view, some_books,
                    source_of, view_with, whole_of)

SIZES = [2, 3]
COINS = ([2, 2, 3], CHAIN, [[[1, 2]], [[3, 1], [1, 3]], [[1, 0, 0], [0, 1, 0]]])


def best_by_hand(book, view):
    return max((chance for world, chance in whole_of(book).items() if fits(world, view)), default=None)


class Topped(unittest.TestCase):
    SHEET = ([0, 1], [(1, 2), (1, 3), (0, 1), (2, 5), (1, 1), (0, 1)])

    def test_by_hand(self):
        self.assertEqual(assert_own(self, topped, SIZES, self.SHEET, 0), ([1], [(1, 2), (1, 1), (0, 1)]))
        self.assertEqual(assert_own(self, topped, SIZES, self.SHEET, 1), ([0], [(1, 2), (1, 1)]))
        self.assertEqual(assert_own(self, topped, SIZES, ([1], [(0, 1), (1, 7), (1, 6)]), 1), ([], [(1, 6)]))
        self.assertEqual(assert_own(self, topped, SIZES, ([0], [(0, 1), (0, 1)]), 0), ([], [(0, 1)]))

    def test_by_chance(self):
        source = source_of(90)
        sizes = [2, 3, 4]
        for turn in range(30):
            shares = [pair(Fraction(source.randint(0, 5), source.randint(1, 9))) for place in range(24)]
            for k in range(3):
                told = assert_own(self, topped, sizes, ([0, 1, 2], shares), k)
                rest = [other for other in range(3) if other != k]
                self.assertEqual(told[0], rest)
                wanted = {}
                for world, one in zip(itertools.product(range(2), range(3), range(4)), shares):
                    key = tuple(world[other] for other in rest)
                    wanted[key] = max(wanted.get(key, (0, 1)), one, key=lambda part: Fraction(*part))
                self.assertEqual(told[1], list(wanted.values()))


class TheBestChance(unittest.TestCase):
    def test_by_hand(self):
        self.assertEqual(best_chance(COINS, [None, None, None]), (1, 2))
        self.assertEqual(best_chance(COINS, [0, None, None]), (1, 4))
        self.assertEqual(best_chance(COINS, [None, 0, None]), (1, 4))
        self.assertEqual(best_chance(COINS, [0, 1, 1]), (1, 12))
        self.assertEqual(best_chance(COINS, [None, 1, 0]), (0, 1))
        self.assertEqual(best_chance(([], [], []), []), (1, 1))

    def test_the_same_in_every_order_and_the_greatest_of_all_worlds(self):
        source = source_of(91)
        for book in some_books(92, 40):
            for view in ([None] * len(book[0]), random_view(source, book[0])):
                wanted = pair(best_by_hand(book, view))
                self.assertEqual(assert_own(self, best_chance, book, view), wanted)
                self.assertEqual(best_chance(book, view, None), wanted)
                orders = list(itertools.permutations([k for k, value in enumerate(view) if value is None]))
                for order in source.sample(orders, min(len(orders), 24)):
                    self.assertEqual(assert_own(self, best_chance, book, view, list(order)), wanted)

    def test_no_order(self):
        for order in ([], [0], [0, 0], [0, 1, 2], [2, 0, 2], [0, 3], [-1, 0], [1]):
            assert_refused(self, NoOrder, best_chance, COINS, [None, 1, None], order)
        assert_refused(self, NoOrder, best_chance, COINS, [0, 0, 0], [0])


class Tops(unittest.TestCase):
    def test_by_hand(self):
        self.assertEqual(assert_own(self, tops, COINS, 0, [None, None, None]), [(1, 4), (1, 2)])
        self.assertEqual(assert_own(self, tops, COINS, 2, [None, None, None]), [(1, 4), (1, 2), (0, 1)])
        self.assertEqual(assert_own(self, tops, COINS, 0, [None, 0, None]), [(1, 4), (1, 6)])

    def test_of_a_thing_that_is_known(self):
        self.assertEqual(assert_own(self, tops, COINS, 2, [None, None, 0]), [(1, 4), (0, 1), (0, 1)])
        self.assertEqual(assert_own(self, tops, COINS, 0, [1, None, None]), [(0, 1), (1, 2)])

    def test_by_chance(self):
        source = source_of(93)
        for book in some_books(94, 40, (1, 2, 3, 4)):
            view = random_view(source, book[0])
            for k in range(len(view)):
                wanted = []
                for a in range(book[0][k]):
                    if view[k] in (None, a):
                        wanted.append(pair(best_by_hand(book, view[:k] + [a] + view[k + 1:])))
                    else:
                        wanted.append((0, 1))
                self.assertEqual(assert_own(self, tops, book, k, view), wanted)


class TheLikeliest(unittest.TestCase):
    def test_by_hand(self):
        self.assertEqual(assert_own(self, likeliest, COINS, [None, None, None]), ([1, 1, 1], (1, 2)))
        self.assertEqual(assert_own(self, likeliest, COINS, [0, None, None]), ([0, 0, 0], (1, 4)))
        self.assertEqual(assert_own(self, likeliest, COINS, [0, 1, 1]), ([0, 1, 1], (1, 12)))

    def test_no_things(self):
        self.assertEqual(assert_own(self, likeliest, ([], [], []), []), ([], (1, 1)))

    def test_the_first_of_several(self):
        even = ([2, 3], [[], []], [[[1, 1]], [[0, 1, 1]]])
        self.assertEqual(assert_own(self, likeliest, even, [None, None]), ([0, 1], (1, 4)))
        self.assertEqual(assert_own(self, likeliest, even, [None, 2]), ([0, 2], (1, 4)))
        # [0, 1] and [1, 0] are the likeliest; the values that are best each for itself don't come together.
        odd = ([2, 2], [[], [0]], [[[1, 1]], [[0, 1], [1, 0]]])
        self.assertEqual(likeliest(odd, [None, None]), ([0, 1], (1, 2)))

    def test_a_view_that_cannot_be(self):
        for view in ([None, 1, 0], [None, None, 2], [0, 0, 1]):
            assert_refused(self, NoGround, likeliest, COINS, view)

    def test_by_chance(self):
        source = source_of(95)
        several = 0
        for book in some_books(96, 80):
            view = random_view(source, book[0])
            best = best_by_hand(book, view)
            if best == 0:
                assert_refused(self, NoGround, likeliest, book, view)
                continue
            worlds = [world for world, chance in whole_of(book).items() if chance == best and fits(world, view)]
            several += len(worlds) > 1
            self.assertEqual(assert_own(self, likeliest, book, view), (list(min(worlds)), pair(best)))
        self.assertGreater(several, 10)

    def test_just_4096_worlds(self):
        book = random_book(source_of(97), random_shape(source_of(98), 12, thick=0.4), [2] * 12)
        whole = whole_of(book)
        best = max(whole.values())
        first = min(world for world, chance in whole.items() if chance == best)
        self.assertEqual(likeliest(book, [None] * 12), (list(first), pair(best)))

    def test_far_more_worlds_but_small_sheets(self):
        book = random_book(source_of(99), [[]] + [[k] for k in range(11)], [4] * 12)
        world, best = likeliest(book, view_with(12, {11: 3}))
        self.assertEqual(world[11], 3)
        self.assertEqual(best, best_chance(book, world))


if __name__ == "__main__":
    unittest.main()
