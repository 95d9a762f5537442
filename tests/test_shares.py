"""Shares: point [4], and what point [2] says of them."""

import inspect
import math
import operator
import random
import unittest
from fractions import Fraction

from causebook import shares
from causebook.errors import BookError, NoShare
from causebook.shares import minus, over, plus, share, times, total, under

# Of every kind but whole numbers; the truths are ints for Python, but no whole numbers here.
NOT_WHOLE = [
    True, False, None, "", "1", "one", (), (1,), (1, 2), [], [1], {}, {1: 2},
    1.0, 0.0, -2.5, float("nan"), float("inf"), 2j, b"1", {1}, frozenset(), Fraction(1, 2), Fraction(3),
    object(), int, len, range(3), NoShare("words"),
]

SMALL = [(top, bottom) for bottom in range(1, 7) for top in range(-7, 8) if math.gcd(top, bottom) == 1]


def pair(fraction):
    return (fraction.numerator, fraction.denominator)


def long_shares(count, figures, seed):
    source = random.Random(seed)
    limit = 10 ** figures
    found = []
    for turn in range(count):
        bottom = source.randrange(limit // 10, limit)
        top = source.randrange(limit // 10, limit) * (-1) ** turn
        found.append(pair(Fraction(top, bottom)))
    return found


LONG = long_shares(14, 60, 4) + [
    (0, 1), (1, 1), (-1, 1), (10 ** 60, 1), (-1, 10 ** 60), (10 ** 59 + 1, 10 ** 59), (1, 2 ** 199), (-3, 2 ** 199),
]


class Checks(unittest.TestCase):
    def assert_share(self, told):
        self.assertIs(type(told), tuple)
        self.assertEqual(len(told), 2)
        for number in told:
            self.assertIs(type(number), int)
        self.assertGreaterEqual(told[1], 1)
        self.assertEqual(math.gcd(told[0], told[1]), 1)

    def assert_told(self, told, fraction):
        self.assert_share(told)
        self.assertEqual(told, pair(fraction))


class TheInterface(unittest.TestCase):
    def test_names_and_arguments(self):
        wanted = {
            "share": ["top", "bottom"], "plus": ["one", "other"], "minus": ["one", "other"],
            "times": ["one", "other"], "over": ["one", "other"], "total": ["shares"], "under": ["one", "other"],
        }
        for name, arguments in wanted.items():
            with self.subTest(name=name):
                self.assertEqual(list(inspect.signature(getattr(shares, name)).parameters), arguments)


class MadeOfTwoNumbers(Checks):
    def test_ordinary_ones(self):
        self.assertEqual(share(1, 2), (1, 2))
        self.assertEqual(share(2, 3), (2, 3))
        self.assertEqual(share(7, 1), (7, 1))
        self.assertEqual(share(5, 5), (1, 1))

    def test_common_divisors_go(self):
        self.assertEqual(share(2, 4), (1, 2))
        self.assertEqual(share(12, 18), (2, 3))
        self.assertEqual(share(100, 10), (10, 1))
        self.assertEqual(share(17 * 19 * 23, 17 * 19 * 29), (23, 29))

    def test_below_nought(self):
        self.assertEqual(share(-2, 4), (-1, 2))
        self.assertEqual(share(2, -4), (-1, 2))
        self.assertEqual(share(-2, -4), (1, 2))
        self.assertEqual(share(3, -1), (-3, 1))
        self.assertEqual(share(-6, -3), (2, 1))

    def test_a_top_of_nought(self):
        for bottom in (1, 2, 9, -1, -7, 10 ** 60, -10 ** 60):
            self.assertEqual(share(0, bottom), (0, 1))

    def test_all_small_ones(self):
        for top in range(-40, 41):
            for bottom in range(-40, 41):
                if bottom != 0:
                    self.assert_told(share(top, bottom), Fraction(top, bottom))

    def test_long_ones(self):
        source = random.Random(44)
        for figures in (60, 61, 120, 300, 700):
            limit = 10 ** figures
            for turn in range(8):
                divisor = source.randrange(1, limit)
                top = source.randrange(-limit, limit) * divisor
                bottom = source.choice((-1, 1)) * source.randrange(1, limit) * divisor
                self.assert_told(share(top, bottom), Fraction(top, bottom))

    def test_many_thousand_figures(self):
        # More figures than Python turns into a text unasked.
        top, bottom = 3 ** 12000, -6 ** 9000
        self.assertEqual(share(top, bottom), (-3 ** 3000, 2 ** 9000))
        self.assertEqual(share(bottom, top), (-2 ** 9000, 3 ** 3000))
        with self.assertRaises(NoShare):
            share(top, 0)
        with self.assertRaises(NoShare):
            share(top, None)

    def test_neighbours_in_fibonaccis_row_stay(self):
        # These take the most steps to find that nothing divides both.
        one, other = 1, 1
        for turn in range(1500):
            one, other = other, one + other
        self.assertEqual(share(one, other), (one, other))
        self.assertEqual(share(-other, one), (-other, one))


class NotMade(unittest.TestCase):
    def refused(self, top, bottom):
        with self.assertRaises(NoShare) as taken:
            share(top, bottom)
        self.assertIsInstance(taken.exception, BookError)

    def test_a_bottom_of_nought(self):
        for top in (0, 1, -1, 5, 10 ** 60, -10 ** 300):
            self.refused(top, 0)

    def test_no_whole_number_at_the_top(self):
        for wrong in NOT_WHOLE:
            with self.subTest(wrong=wrong):
                for bottom in (1, 2, -3, 0, 10 ** 60):
                    self.refused(wrong, bottom)

    def test_no_whole_number_at_the_bottom(self):
        for wrong in NOT_WHOLE:
            with self.subTest(wrong=wrong):
                for top in (1, 0, -3, 10 ** 60):
                    self.refused(top, wrong)

    def test_no_whole_number_at_both(self):
        for wrong in NOT_WHOLE:
            for other in NOT_WHOLE:
                with self.subTest(wrong=wrong, other=other):
                    self.refused(wrong, other)

    def test_what_is_refused_is_not_changed(self):
        row, table = [1, 2], {1: 2}
        self.refused(row, table)
        self.refused(table, row)
        self.assertEqual((row, table), ([1, 2], {1: 2}))


class Reckoned(Checks):
    def check_all(self, some, function, reckon):
        for one in some:
            for other in some:
                with self.subTest(one=one, other=other):
                    self.assert_told(function(one, other), reckon(Fraction(*one), Fraction(*other)))

    def test_plus(self):
        self.assertEqual(plus((1, 2), (1, 3)), (5, 6))
        self.assertEqual(plus((1, 6), (1, 3)), (1, 2))
        self.assertEqual(plus((1, 2), (-1, 2)), (0, 1))
        self.assertEqual(plus((-1, 2), (-1, 2)), (-1, 1))
        self.check_all(SMALL, plus, operator.add)
        self.check_all(LONG, plus, operator.add)

    def test_minus(self):
        self.assertEqual(minus((1, 2), (1, 3)), (1, 6))
        self.assertEqual(minus((1, 3), (1, 2)), (-1, 6))
        self.assertEqual(minus((2, 3), (2, 3)), (0, 1))
        self.check_all(SMALL, minus, operator.sub)
        self.check_all(LONG, minus, operator.sub)

    def test_times(self):
        self.assertEqual(times((2, 3), (3, 4)), (1, 2))
        self.assertEqual(times((-2, 3), (3, 2)), (-1, 1))
        self.assertEqual(times((0, 1), (-5, 7)), (0, 1))
        self.check_all(SMALL, times, operator.mul)
        self.check_all(LONG, times, operator.mul)

    def test_over(self):
        self.assertEqual(over((1, 2), (3, 4)), (2, 3))
        self.assertEqual(over((1, 2), (-3, 4)), (-2, 3))
        self.assertEqual(over((-1, 2), (-3, 4)), (2, 3))
        self.assertEqual(over((0, 1), (-3, 4)), (0, 1))
        for some in (SMALL, LONG):
            for one in some:
                for other in some:
                    if other[0] != 0:
                        self.assert_told(over(one, other), Fraction(*one) / Fraction(*other))

    def test_over_nought_is_refused(self):
        for one in SMALL + LONG:
            with self.assertRaises(NoShare):
                over(one, (0, 1))

    def test_under(self):
        self.assertIs(under((1, 3), (1, 2)), True)
        self.assertIs(under((1, 2), (1, 3)), False)
        self.assertIs(under((-1, 2), (-1, 3)), True)
        self.assertIs(under((-1, 1), (0, 1)), True)
        self.assertIs(under((0, 1), (-1, 1)), False)
        for some in (SMALL, LONG):
            for one in some:
                self.assertIs(under(one, one), False)
                for other in some:
                    self.assertIs(under(one, other), Fraction(*one) < Fraction(*other))

    def test_under_where_they_are_nearly_the_same(self):
        great = 10 ** 60
        self.assertIs(under((great, great + 1), (great + 1, great + 2)), True)
        self.assertIs(under((great + 1, great + 2), (great, great + 1)), False)

    def test_some_hundred_figures(self):
        some = long_shares(6, 400, 400)
        self.check_all(some, plus, operator.add)
        self.check_all(some, minus, operator.sub)
        self.check_all(some, times, operator.mul)
        self.check_all(some, over, operator.truediv)


class Totalled(Checks):
    def test_of_none(self):
        self.assertEqual(total([]), (0, 1))
        self.assert_share(total([]))

    def test_of_one(self):
        for one in SMALL + LONG:
            self.assert_told(total([one]), Fraction(*one))

    def test_of_several(self):
        self.assertEqual(total([(1, 2), (1, 3), (1, 6)]), (1, 1))
        self.assertEqual(total([(1, 2), (-1, 3), (-1, 6)]), (0, 1))
        self.assert_told(total(SMALL), sum(Fraction(*one) for one in SMALL))
        self.assert_told(total(LONG), sum(Fraction(*one) for one in LONG))

    def test_the_same_share_often(self):
        self.assertEqual(total([(1, 4096)] * 4096), (1, 1))
        self.assertEqual(total([(-2, 9)] * 9), (-2, 1))

    def test_five_thousand(self):
        some = [share(top, top % 97 + 1) for top in range(-2500, 2500)]
        self.assert_told(total(some), sum(Fraction(*one) for one in some))

    def test_the_list_handed_in_stays(self):
        some = [(1, 2), (-2, 3), (0, 1)]
        again = total(some)
        self.assertEqual(some, [(1, 2), (-2, 3), (0, 1)])
        self.assertEqual(total(some), again)
        none = []
        total(none)
        self.assertEqual(none, [])

    def test_what_was_told_stays(self):
        some = [(1, 2), (1, 3)]
        before = total(some)
        some.append((1, 6))
        self.assertEqual(total(some), (1, 1))
        self.assertEqual(before, (5, 6))
        self.assertEqual(total([]), (0, 1))


if __name__ == "__main__":
    unittest.main()
