"""Sheets: point [13], and what point [2] says of them."""

import unittest
from fractions import Fraction

from causebook.books import by_worlds
from causebook.sheets import joined, leaf, left_out
from helper import (assert_own, chance_of_value, pair, random_book, random_shape, random_view, source_of, worlds_of)

SIZES = [2, 3, 2, 4]


def as_dict(sizes, sheet):
    things, shares = sheet
    found = {}
    for values, one in zip(worlds_of([sizes[k] for k in things]), shares, strict=True):
        found[values] = Fraction(*one)
    return found


def random_sheet(source, sizes, things):
    count = len(list(worlds_of([sizes[k] for k in things])))
    return (list(things), [pair(Fraction(source.randint(-6, 6), source.randint(1, 9))) for turn in range(count)])


class Leaves(unittest.TestCase):
    # 1 has the causes 0 and 2; their sizes are 2, 3 and 2.
    BOOK = ([2, 3, 2], [[], [0, 2], []],
            [[[1, 1]], [[1, 2, 3], [0, 0, 5], [1, 1, 1], [2, 0, 2]], [[3, 1]]])

    def test_nothing_known(self):
        told = assert_own(self, leaf, self.BOOK, 1, [None, None, None])
        self.assertEqual(told, ([0, 1, 2], [(1, 6), (0, 1), (1, 3), (0, 1), (1, 2), (1, 1),
                                            (1, 3), (1, 2), (1, 3), (0, 1), (1, 3), (1, 2)]))
        self.assertEqual(assert_own(self, leaf, self.BOOK, 2, [None] * 3), ([2], [(3, 4), (1, 4)]))

    def test_the_thing_known(self):
        told = assert_own(self, leaf, self.BOOK, 1, [None, 2, None])
        self.assertEqual(told, ([0, 2], [(1, 2), (1, 1), (1, 3), (1, 2)]))
        self.assertEqual(assert_own(self, leaf, self.BOOK, 2, [None, 2, 0]), ([], [(3, 4)]))

    def test_causes_known(self):
        told = assert_own(self, leaf, self.BOOK, 1, [0, None, None])
        self.assertEqual(told, ([1, 2], [(1, 6), (0, 1), (1, 3), (0, 1), (1, 2), (1, 1)]))
        told = assert_own(self, leaf, self.BOOK, 1, [1, None, 1])
        self.assertEqual(told, ([1], [(1, 2), (0, 1), (1, 2)]))

    def test_all_known(self):
        self.assertEqual(assert_own(self, leaf, self.BOOK, 1, [0, 0, 0]), ([], [(1, 6)]))
        self.assertEqual(assert_own(self, leaf, self.BOOK, 1, [1, 1, 1]), ([], [(0, 1)]))

    def test_by_chance(self):
        source = source_of(20)
        for turn in range(60):
            causes = random_shape(source, source.choice((1, 3, 5)), thick=0.7)
            book = random_book(source, causes, greatest=source.choice((3, 10 ** 60 - 1)), noughts=0.2)
            view = random_view(source, book[0], source.choice((0.0, 0.4, 1.0)))
            for k in range(len(causes)):
                things, shares = assert_own(self, leaf, book, k, view)
                self.assertEqual(things, [t for t in sorted(causes[k] + [k]) if view[t] is None])
                wanted = []
                for values in worlds_of([book[0][t] for t in things]):
                    world = [value or 0 for value in view]
                    for t, value in zip(things, values):
                        world[t] = value
                    wanted.append(pair(chance_of_value(book, k, world)))
                self.assertEqual(shares, wanted)

    def test_just_4096_worlds_of_its_own(self):
        # Six things of four values each have these; all things of the book far more.
        causes = [[] for k in range(5)] + [[0, 1, 2, 3, 4]] + [[] for k in range(6)]
        book = random_book(source_of(21), causes, [4] * 12)
        things, shares = leaf(book, 5, [None] * 12)
        self.assertEqual((things, len(shares)), ([0, 1, 2, 3, 4, 5], 4096))
        self.assertEqual(shares[0], pair(chance_of_value(book, 5, [0] * 12)))
        self.assertEqual(shares[4095], pair(chance_of_value(book, 5, [3] * 12)))


class Joined(unittest.TestCase):
    def test_by_hand(self):
        one, other = ([0], [(1, 2), (1, 3)]), ([2], [(2, 1), (3, 1)])
        self.assertEqual(assert_own(self, joined, SIZES, one, other), ([0, 2], [(1, 1), (3, 2), (2, 3), (1, 1)]))
        self.assertEqual(assert_own(self, joined, SIZES, other, one), ([0, 2], [(1, 1), (3, 2), (2, 3), (1, 1)]))

    def test_sheets_of_no_things(self):
        none, one = ([], [(2, 3)]), ([1], [(1, 2), (0, 1), (-3, 1)])
        self.assertEqual(assert_own(self, joined, SIZES, none, none), ([], [(4, 9)]))
        self.assertEqual(assert_own(self, joined, SIZES, none, one), ([1], [(1, 3), (0, 1), (-2, 1)]))
        self.assertEqual(assert_own(self, joined, SIZES, one, none), ([1], [(1, 3), (0, 1), (-2, 1)]))
        self.assertEqual(assert_own(self, joined, [], none, none), ([], [(4, 9)]))

    def test_the_same_things(self):
        one, other = ([1], [(1, 2), (0, 1), (-3, 1)]), ([1], [(1, 5), (7, 1), (-1, 3)])
        self.assertEqual(assert_own(self, joined, SIZES, one, other), ([1], [(1, 10), (0, 1), (1, 1)]))
        self.assertEqual(assert_own(self, joined, SIZES, one, one), ([1], [(1, 4), (0, 1), (9, 1)]))

    def test_some_in_common(self):
        one = ([0, 2], [(1, 1), (2, 1), (3, 1), (4, 1)])
        other = ([1, 2], [(1, 1), (10, 1), (100, 1), (1000, 1), (0, 1), (-1, 1)])
        wanted = [(1, 1), (20, 1), (100, 1), (2000, 1), (0, 1), (-2, 1),
                  (3, 1), (40, 1), (300, 1), (4000, 1), (0, 1), (-4, 1)]
        self.assertEqual(assert_own(self, joined, SIZES, one, other), ([0, 1, 2], wanted))

    def test_by_chance(self):
        source = source_of(22)
        for turn in range(60):
            some = [k for k in range(4) if source.random() < 0.5]
            others = [k for k in range(4) if source.random() < 0.5]
            one, other = random_sheet(source, SIZES, some), random_sheet(source, SIZES, others)
            told = assert_own(self, joined, SIZES, one, other)
            self.assertEqual(told[0], sorted(set(some) | set(others)))
            ones, twos = as_dict(SIZES, one), as_dict(SIZES, other)
            for values, product in as_dict(SIZES, told).items():
                at = dict(zip(told[0], values))
                self.assertEqual(product, ones[tuple(at[k] for k in some)] * twos[tuple(at[k] for k in others)])


class LeftOut(unittest.TestCase):
    def test_by_hand(self):
        sheet = ([0, 1], [(1, 2), (1, 3), (0, 1), (-1, 2), (1, 1), (2, 1)])
        self.assertEqual(assert_own(self, left_out, SIZES, sheet, 0), ([1], [(0, 1), (4, 3), (2, 1)]))
        self.assertEqual(assert_own(self, left_out, SIZES, sheet, 1), ([0], [(5, 6), (5, 2)]))

    def test_the_only_thing(self):
        self.assertEqual(assert_own(self, left_out, SIZES, ([1], [(1, 2), (1, 3), (1, 6)]), 1), ([], [(1, 1)]))
        self.assertEqual(assert_own(self, left_out, SIZES, ([3], [(-1, 1), (0, 1), (0, 1), (-2, 3)]), 3),
                         ([], [(-5, 3)]))

    def test_by_chance(self):
        source = source_of(23)
        for turn in range(60):
            things = [k for k in range(4) if source.random() < 0.7] or [2]
            sheet = random_sheet(source, SIZES, things)
            k = source.choice(things)
            told = assert_own(self, left_out, SIZES, sheet, k)
            self.assertEqual(told[0], [t for t in things if t != k])
            whole = as_dict(SIZES, sheet)
            place = things.index(k)
            for values, sum_told in as_dict(SIZES, told).items():
                wanted = sum(whole[values[:place] + (a,) + values[place:]] for a in range(SIZES[k]))
                self.assertEqual(sum_told, wanted)

    def test_all_leaves_joined_and_left_out(self):
        source = source_of(24)
        for turn in range(10):
            book = random_book(source, random_shape(source, 4), noughts=0.1)
            view = random_view(source, book[0])
            pile = ([], [(1, 1)])
            for k in range(4):
                pile = joined(book[0], pile, leaf(book, k, view))
            for k in list(pile[0]):
                pile = left_out(book[0], pile, k)
            self.assertEqual(pile, ([], [by_worlds(book, view)]))


if __name__ == "__main__":
    unittest.main()
