"""Setting and seeing: point [23], what [3] says of setting, and what [2] says of them."""

import unittest
from fractions import Fraction

from causebook.errors import NoGround
from causebook.setting import by_seeing, by_setting
from helper import (CHAIN, assert_own, assert_refused, pair, random_book, random_question, random_shape, set_by_hand,
                    source_of, sum_over, view_with, whole_of, worlds_of)

# 0 is a cause of both 1 and 2, and 1 one of 2.
MIXED = ([2, 2, 2], [[], [0], [0, 1]], [[[1, 1]], [[3, 1], [1, 3]], [[9, 1], [6, 4], [4, 6], [1, 9]]])


def seeing_by_hand(book, x, a, y, b, some):
    """The sum of point [23] over all worlds of the list; None where it is refused."""
    whole, number = whole_of(book), len(book[0])
    found = Fraction(0)
    for values in worlds_of([book[0][k] for k in some]):
        here = dict(zip(some, values))
        weight = sum_over(whole, view_with(number, here))
        if weight == 0:
            continue
        ground = sum_over(whole, view_with(number, here | {x: a}))
        if ground == 0:
            return None
        found += sum_over(whole, view_with(number, here | {x: a, y: b})) / ground * weight
    return found


class BySetting(unittest.TestCase):
    def test_by_hand(self):
        self.assertEqual(by_setting(MIXED, 1, 0, 2, 0), (13, 20))
        self.assertEqual(by_setting(MIXED, 1, 1, 2, 0), (7, 20))
        self.assertEqual(by_setting(MIXED, 2, 0, 1, 0), (1, 2))
        self.assertEqual(by_setting(MIXED, 1, 0, 0, 1), (1, 2))
        self.assertEqual(by_setting(MIXED, 0, 0, 1, 0), (3, 4))

    def test_what_is_set_to_a_value_that_it_never_has(self):
        book = ([2, 2], [[], [0]], [[[1, 0]], [[1, 2], [2, 1]]])
        self.assertEqual(by_setting(book, 0, 1, 1, 0), (2, 3))

    def test_by_chance(self):
        source = source_of(72)
        for turn in range(60):
            causes = random_shape(source, source.choice((2, 3, 4, 5)), thick=0.6)
            book = random_book(source, causes, greatest=source.choice((9, 10 ** 60 - 1)), noughts=0.2)
            x, y, rest = random_question(source, len(causes), 0)
            for a in range(book[0][x]):
                whole = whole_of(set_by_hand(book, x, a))
                for b in range(book[0][y]):
                    wanted = pair(sum_over(whole, view_with(len(causes), {y: b})))
                    self.assertEqual(assert_own(self, by_setting, book, x, a, y, b), wanted)


class BySeeing(unittest.TestCase):
    def test_by_hand(self):
        # Over 0, which is a cause of both, it is the same as by setting; over none it is another.
        self.assertEqual(by_seeing(MIXED, 1, 0, 2, 0, [0]), (13, 20))
        self.assertEqual(by_seeing(MIXED, 1, 0, 2, 0, []), (31, 40))
        self.assertEqual(by_seeing(MIXED, 0, 0, 1, 0, []), (3, 4))
        self.assertEqual(by_seeing(MIXED, 1, 1, 2, 1, [0]), (13, 20))

    def test_no_ground(self):
        # 1 is surely as 0 is: where 0 is 0, 1 is never 1.
        sure = ([2, 2, 2], CHAIN, [[[1, 1]], [[1, 0], [0, 1]], [[1, 2], [2, 1]]])
        assert_refused(self, NoGround, by_seeing, sure, 1, 1, 2, 0, [0])
        assert_refused(self, NoGround, by_seeing, sure, 1, 0, 2, 0, [0])
        assert_refused(self, NoGround, by_seeing, sure, 0, 0, 2, 0, [1])
        self.assertEqual(by_seeing(sure, 1, 1, 2, 0, []), (2, 3))
        never = ([2, 2], [[], [0]], [[[1, 0]], [[1, 2], [2, 1]]])
        assert_refused(self, NoGround, by_seeing, never, 0, 1, 1, 0, [])

    def test_what_cannot_be_adds_nothing(self):
        # 0 is never 1, so it doesn't matter that 1 is never 0 there.
        book = ([2, 2, 2], CHAIN, [[[1, 0]], [[1, 1], [0, 1]], [[1, 2], [2, 1]]])
        self.assertEqual(by_seeing(book, 1, 0, 2, 0, [0]), (1, 3))

    def test_by_chance(self):
        source = source_of(73)
        seen = [0, 0]
        for turn in range(150):
            causes = random_shape(source, source.choice((2, 3, 4, 5)), thick=0.6)
            book = random_book(source, causes, noughts=source.choice((0.0, 0.3)))
            x, y, some = random_question(source, len(causes))
            a, b = source.randrange(book[0][x]), source.randrange(book[0][y])
            wanted = seeing_by_hand(book, x, a, y, b, some)
            seen[wanted is None] += 1
            if wanted is None:
                assert_refused(self, NoGround, by_seeing, book, x, a, y, b, some)
            else:
                self.assertEqual(assert_own(self, by_seeing, book, x, a, y, b, some), pair(wanted))
        self.assertGreater(min(seen), 10)

    def test_a_long_list(self):
        causes = random_shape(source_of(74), 12, thick=0.3)
        book = random_book(source_of(75), causes, [2] * 12)
        first, second = by_seeing(book, 0, 0, 11, 0, list(range(1, 11))), by_seeing(book, 0, 0, 11, 1, list(range(1, 11)))
        self.assertEqual(Fraction(*first) + Fraction(*second), 1)


if __name__ == "__main__":
    unittest.main()
