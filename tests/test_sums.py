"""Sums: points [14] and [15], what [3] says of chances, and what [2] says of them."""

import itertools
import unittest
from fractions import Fraction

from causebook.books import by_worlds
from causebook.errors import NoGround, NoOrder
from causebook.shares import total
from causebook.sums import chance, chance_given, spread, widths
from helper import (CHAIN, VEE, assert_own, assert_refused, fits, fraction, pair, random_book, random_shape,
                    random_view, some_books, source_of, sum_over, view_with, whole_of)

# A coin, a second one that is mostly the same, and a third one that is surely the second.
COINS = ([2, 2, 3], [[], [0], [1]], [[[1, 2]], [[3, 1], [1, 3]], [[1, 0, 0], [0, 1, 0]]])


def unknown(view):
    return [k for k, value in enumerate(view) if value is None]


def widths_by_hand(causes, view, order):
    """Things that are not known are neighbours where a leaf has both; who is left out joins its neighbours."""
    near = {k: set() for k in order}
    for k, own in enumerate(causes):
        for one, other in itertools.permutations([t for t in own + [k] if view[t] is None], 2):
            near[one].add(other)
    found = []
    for k in order:
        around = near.pop(k)
        for one in around:
            near[one] |= around
            near[one] -= {one, k}
        found.append(sorted(around))
    return found


class TheChance(unittest.TestCase):
    def test_by_hand(self):
        self.assertEqual(chance(COINS, [None, None, None]), (1, 1))
        self.assertEqual(chance(COINS, [1, None, None]), (2, 3))
        self.assertEqual(chance(COINS, [None, 0, None]), (5, 12))
        self.assertEqual(chance(COINS, [None, None, 0]), (5, 12))
        self.assertEqual(chance(COINS, [0, None, 1]), (1, 12))
        self.assertEqual(chance(COINS, [None, 1, 0]), (0, 1))
        self.assertEqual(chance(COINS, [None, None, 2]), (0, 1))
        self.assertEqual(chance(([], [], []), []), (1, 1))
        self.assertEqual(chance(([], [], []), [], []), (1, 1))

    def test_the_same_in_every_order_and_by_all_worlds(self):
        source = source_of(30)
        for book in some_books(31, 40):
            for view in ([None] * len(book[0]), random_view(source, book[0]), random_view(source, book[0], 1.0)):
                wanted = pair(sum_over(whole_of(book), view))
                self.assertEqual(by_worlds(book, view), wanted)
                self.assertEqual(assert_own(self, chance, book, view), wanted)
                self.assertEqual(assert_own(self, chance, book, view, None), wanted)
                orders = list(itertools.permutations(unknown(view)))
                for order in source.sample(orders, min(len(orders), 24)):
                    self.assertEqual(assert_own(self, chance, book, view, list(order)), wanted)

    def test_every_order_of_five(self):
        book = random_book(source_of(32), random_shape(source_of(33), 5), [2] * 5)
        wanted = pair(sum_over(whole_of(book), [None, 1, None, None, None]))
        for order in itertools.permutations([0, 2, 3, 4]):
            self.assertEqual(chance(book, [None, 1, None, None, None], list(order)), wanted)

    def test_just_4096_worlds(self):
        for causes, size in ((random_shape(source_of(34), 12), 2), (random_shape(source_of(35), 6), 4)):
            book = random_book(source_of(36), causes, [size] * len(causes))
            view = view_with(len(causes), {3: 1})
            self.assertEqual(chance(book, view), by_worlds(book, view))

    def test_far_more_worlds_but_small_sheets(self):
        book = random_book(source_of(37), [[]] + [[k] for k in range(11)], [4] * 12)
        self.assertEqual(chance(book, [None] * 12), (1, 1))
        self.assertEqual(total([chance(book, view_with(12, {11: a})) for a in range(4)]), (1, 1))
        self.assertEqual(chance(book, view_with(12, {11: 2})), chance(book, view_with(12, {11: 2}),
                                                                     list(range(10, -1, -1))))


class NoOrders(unittest.TestCase):
    VIEW = [None, 1, None]

    def test_what_is_none(self):
        for order in ([], [0], [2], [0, 0], [0, 2, 2], [0, 2, 0], [0, 1, 2], [1, 0, 2], [0, 1], [1], [0, 3], [0, 2, 3],
                      [0, -1], [-1, 0, 2], [0, 2, 10 ** 59], [-3, -1], [3, 4]):
            for function in (chance, widths):
                with self.subTest(order=order):
                    assert_refused(self, NoOrder, function, COINS, self.VIEW, order)

    def test_where_all_is_known(self):
        self.assertEqual(chance(COINS, [0, 0, 0], []), (1, 4))
        self.assertEqual(widths(COINS, [0, 0, 0], []), [])
        for order in ([0], [2], [0, 1, 2], [3]):
            assert_refused(self, NoOrder, chance, COINS, [0, 0, 0], order)
            assert_refused(self, NoOrder, widths, COINS, [0, 0, 0], order)

    def test_of_no_things(self):
        for order in ([0], [1, 2]):
            assert_refused(self, NoOrder, chance, ([], [], []), [], order)
            assert_refused(self, NoOrder, widths, ([], [], []), [], order)

    def test_also_where_the_chance_is_0(self):
        assert_refused(self, NoOrder, chance, COINS, [None, 1, 0], [])


class TheWidths(unittest.TestCase):
    def test_by_hand(self):
        chain = random_book(source_of(38), CHAIN)
        self.assertEqual(assert_own(self, widths, chain, [None] * 3), [[1], [2], []])
        self.assertEqual(assert_own(self, widths, chain, [None] * 3, None), [[1], [2], []])
        self.assertEqual(assert_own(self, widths, chain, [None] * 3, [1, 0, 2]), [[0, 2], [2], []])
        self.assertEqual(assert_own(self, widths, chain, [None, 0, None]), [[], []])
        self.assertEqual(assert_own(self, widths, chain, [None] * 3, [2, 1, 0]), [[1], [0], []])
        vee = random_book(source_of(39), VEE)
        self.assertEqual(assert_own(self, widths, vee, [None, 0, None]), [[2], []])
        self.assertEqual(assert_own(self, widths, vee, [None] * 3, [0, 2, 1]), [[1, 2], [1], []])
        self.assertEqual(assert_own(self, widths, ([], [], []), []), [])

    def test_by_chance(self):
        source = source_of(40)
        for turn in range(80):
            causes = random_shape(source, source.choice((1, 3, 5, 8, 12)), thick=0.4)
            sizes = [4] * len(causes)
            book = (sizes, causes, [[[1] * 4] * 4 ** len(own) for own in causes])
            view = random_view(source, sizes, 0.2)
            order = unknown(view)
            self.assertEqual(widths(book, view), widths_by_hand(causes, view, order))
            source.shuffle(order)
            self.assertEqual(assert_own(self, widths, book, view, order), widths_by_hand(causes, view, order))


class WhereSomethingIsKnown(unittest.TestCase):
    def test_by_hand(self):
        self.assertEqual(chance_given(COINS, [0, None, None], [None, 0, None]), (3, 5))
        self.assertEqual(chance_given(COINS, [None, 0, None], [0, None, None]), (3, 4))
        self.assertEqual(chance_given(COINS, [None, None, None], [None, 0, None]), (1, 1))
        self.assertEqual(chance_given(COINS, [0, None, None], [None, None, None]), (1, 3))
        self.assertEqual(chance_given(([], [], []), [], []), (1, 1))

    def test_the_same_values_in_part(self):
        self.assertEqual(chance_given(COINS, [0, 0, None], [None, 0, None]), (3, 5))
        self.assertEqual(chance_given(COINS, [None, 0, None], [None, 0, None]), (1, 1))
        self.assertEqual(chance_given(COINS, [0, 1, 1], [0, None, 1]), (1, 1))

    def test_unlike_values(self):
        self.assertEqual(chance_given(COINS, [None, 1, None], [None, 0, None]), (0, 1))
        self.assertEqual(chance_given(COINS, [1, 0, None], [0, 0, None]), (0, 1))

    def test_a_known_one_that_cannot_be(self):
        for known in ([None, 1, 0], [None, None, 2], [0, 0, 1]):
            for view in ([None, None, None], known, [0, None, None], [None, 0, None], [1, 1, 1]):
                assert_refused(self, NoGround, chance_given, COINS, view, known)
            for k in range(3):
                assert_refused(self, NoGround, spread, COINS, k, known)

    def test_by_chance(self):
        source = source_of(41)
        for book in some_books(42, 60):
            whole = whole_of(book)
            known, view = random_view(source, book[0]), random_view(source, book[0], 0.5)
            ground = sum_over(whole, known)
            if ground == 0:
                assert_refused(self, NoGround, chance_given, book, view, known)
                continue
            both = sum((p for world, p in whole.items() if fits(world, view) and fits(world, known)), Fraction(0))
            self.assertEqual(assert_own(self, chance_given, book, view, known), pair(both / ground))

    def test_the_spread(self):
        self.assertEqual(assert_own(self, spread, COINS, 0, [None, 0, None]), [(3, 5), (2, 5)])
        self.assertEqual(assert_own(self, spread, COINS, 2, [None] * 3), [(5, 12), (7, 12), (0, 1)])
        self.assertEqual(assert_own(self, spread, COINS, 2, [None, None, 1]), [(0, 1), (1, 1), (0, 1)])
        self.assertEqual(assert_own(self, spread, COINS, 2, [None, 0, None]), [(1, 1), (0, 1), (0, 1)])

    def test_the_spread_by_chance(self):
        source = source_of(43)
        for book in some_books(44, 40, (1, 2, 3, 5)):
            whole = whole_of(book)
            known = random_view(source, book[0])
            ground = sum_over(whole, known)
            for k in range(len(book[0])):
                if ground == 0:
                    assert_refused(self, NoGround, spread, book, k, known)
                    continue
                told = assert_own(self, spread, book, k, known)
                wanted = []
                for a in range(book[0][k]):
                    here = sum((p for world, p in whole.items() if world[k] == a and fits(world, known)), Fraction(0))
                    wanted.append(pair(here / ground))
                self.assertEqual(told, wanted)
                self.assertEqual(sum(fraction(one) for one in told), 1)


if __name__ == "__main__":
    unittest.main()
