"""Told from what is seen: points [30] to [33], what [3] says of it, and what [2] says of it."""

import itertools
import unittest
from fractions import Fraction

from causebook.errors import NoGround, NotTold
from causebook.recipes import chain, counting, is_chain, recipe, seen_sheet, stuck, told, worked
from causebook.setting import by_setting
from helper import (assert_own, assert_refused, fraction, hidden_shape, pair, random_book, seen_of, set_by_hand,
                    source_of, sum_over, view_with, whole_of, worlds_of)

# Behind the names: x, y as asked, u and v hidden, the rest seen.
# x -> y, u above both.
BOW = ([[2], [0, 2], []], [2], 0, 1)
# x -> m -> y, u above x and y.
FRONT = ([[3], [0], [1, 3], []], [3], 0, 2)
# w -> z -> x -> y, u above w and x, v above w and y.
NAPKIN = ([[4, 5], [0], [1, 4], [2, 5], [], []], [4, 5], 2, 3)
# z -> x -> y and z -> y, nothing hidden.
BACK = ([[], [0], [0, 1]], [], 1, 2)
# x -> z -> y, u above x and z: z can't be told, whatever of y.
BENT = ([[3], [0, 3], [1], []], [3], 0, 2)


def clumps_by_hand(causes, hidden, some):
    left, found = list(some), []
    while left:
        clump = {left[0]}
        for turn in some:
            for h in hidden:
                ends = {k for k in some if h in causes[k]}
                if ends & clump:
                    clump |= ends
        found.append(sorted(clump))
        left = [k for k in left if k not in clump]
    return found


def above_by_hand(causes, some, within):
    found = set(some)
    for turn in within:
        for k in list(found):
            found |= set(causes[k]) & set(within)
    return sorted(found)


def counting_by_hand(causes, hidden, x, y):
    return above_by_hand(causes, [y], [k for k in seen_of(causes, hidden) if k != x])


def chain_by_hand(causes, hidden, clump):
    """The words of point [30] in turn: the lists, or the clump that it is stuck in."""
    lists = [seen_of(causes, hidden)]
    while True:
        around = next(part for part in clumps_by_hand(causes, hidden, lists[-1]) if set(clump) <= set(part))
        if around != lists[-1]:
            lists.append(around)
        if around == clump:
            return lists, None
        over = above_by_hand(causes, clump, around)
        if over == clump:
            return lists + [over], None
        if over == around:
            return None, around
        lists.append(over)


def order_by_hand(causes):
    found = []
    while len(found) < len(causes):
        found.append(min(k for k in range(len(causes)) if k not in found and set(causes[k]) <= set(found)))
    return found


def summed(worlds, shares, places):
    """A share for each world: the sum of the shares of all worlds that are alike but for the values at the places."""
    sums = {}
    for world in worlds:
        key = tuple(None if place in places else value for place, value in enumerate(world))
        sums[key] = sums.get(key, 0) + shares[world]
    found = {}
    for world in worlds:
        found[world] = sums[tuple(None if place in places else value for place, value in enumerate(world))]
    return found


def worked_by_hand(sizes, causes, hidden, lists, shares):
    """Point [32] to the letter: a share for each world of the seen things in each list of the chain."""
    seen, order = seen_of(causes, hidden), order_by_hand(causes)
    worlds = list(worlds_of([sizes[k] for k in seen]))
    held = dict(zip(worlds, [fraction(one) for one in shares], strict=True))
    for ahead, part in zip(lists, lists[1:]):
        if part in clumps_by_hand(causes, hidden, ahead):
            product = {world: Fraction(1) for world in worlds}
            for k in part:
                later = [seen.index(t) for t in ahead if order.index(t) > order.index(k)]
                above, below = summed(worlds, held, later), summed(worlds, held, later + [seen.index(k)])
                product = {world: product[world] * above[world] / below[world] for world in worlds}
            held = product
        else:
            held = summed(worlds, held, [seen.index(k) for k in ahead if k not in part])
    return [pair(held[world]) for world in worlds]


def told_by_hand(sizes, causes, hidden, x, a, y, b, shares):
    seen, counts = seen_of(causes, hidden), counting_by_hand(causes, hidden, x, y)
    worlds = list(worlds_of([sizes[k] for k in seen]))
    parts = []
    for clump in clumps_by_hand(causes, hidden, counts):
        lists = chain_by_hand(causes, hidden, clump)[0]
        parts.append(dict(zip(worlds, worked_by_hand(sizes, causes, hidden, lists, shares))))
    found = Fraction(0)
    rest = [k for k in counts if k != y]
    for values in worlds_of([sizes[k] for k in rest]):
        at = {x: a, y: b} | dict(zip(rest, values))
        product = Fraction(1)
        for part in parts:
            product *= fraction(part[tuple(at.get(k, 0) for k in seen)])
        found += product
    return pair(found)


def some_questions(seed, turns, most_seen=5):
    source = source_of(seed)
    for turn in range(turns):
        seen = source.randint(2, most_seen)
        causes, hidden = hidden_shape(source, seen, source.choice((0, 1, 2, 3)), source.choice((0.4, 0.7, 0.9)))
        x, y = source.sample(seen_of(causes, hidden), 2)
        yield causes, hidden, x, y


class WhatCounts(unittest.TestCase):
    def test_by_hand(self):
        self.assertEqual(assert_own(self, counting, *BOW), [1])
        self.assertEqual(assert_own(self, counting, *FRONT), [1, 2])
        self.assertEqual(assert_own(self, counting, *NAPKIN), [3])
        self.assertEqual(assert_own(self, counting, *BACK), [0, 2])
        # Above by ways that come by x doesn't count.
        self.assertEqual(assert_own(self, counting, [[], [0], [1]], [], 1, 2), [2])
        self.assertEqual(assert_own(self, counting, [[], [0]], [], 1, 0), [0])

    def test_by_chance(self):
        for causes, hidden, x, y in some_questions(110, 100, 7):
            self.assertEqual(assert_own(self, counting, causes, hidden, x, y),
                             counting_by_hand(causes, hidden, x, y))


class Recipes(unittest.TestCase):
    def test_nothing_hidden(self):
        self.assertEqual(assert_own(self, recipe, *BACK), [[[0, 1, 2], [0]], [[0, 1, 2], [2]]])
        self.assertIsNone(stuck(*BACK))
        self.assertEqual(assert_own(self, recipe, [[], [0]], [], 1, 0), [[[0, 1], [0]]])

    def test_one_that_ends_by_1_and_one_that_ends_by_2(self):
        self.assertEqual(assert_own(self, recipe, *FRONT), [[[0, 1, 2], [1]], [[0, 1, 2], [0, 2], [2]]])
        self.assertEqual(assert_own(self, chain, FRONT[0], FRONT[1], [1]), [[0, 1, 2], [1]])
        self.assertEqual(assert_own(self, chain, FRONT[0], FRONT[1], [2]), [[0, 1, 2], [0, 2], [2]])
        self.assertIsNone(stuck(*FRONT))

    def test_one_that_goes_on(self):
        self.assertEqual(assert_own(self, recipe, *NAPKIN), [[[0, 1, 2, 3], [0, 2, 3], [2, 3], [3]]])

    def test_one_that_begins_with_a_clump_that_is_all(self):
        # u above x and y, v above y and z, y -> x -> z: all are one clump; above z within it are all.
        causes, hidden = [[1, 3], [3, 4], [0, 4], [], []], [3, 4]
        self.assertEqual(assert_own(self, recipe, causes, hidden, 0, 1), [[[0, 1, 2], [1]]])
        self.assertEqual(assert_own(self, stuck, causes, hidden, 0, 2), ([2], [0, 1, 2]))

    def test_stuck(self):
        self.assertEqual(assert_own(self, stuck, *BOW), ([1], [0, 1]))
        self.assertIsNone(recipe(*BOW))
        self.assertIsNone(chain(BOW[0], BOW[1], [1]))
        self.assertEqual(assert_own(self, stuck, *BENT), ([1], [0, 1]))
        self.assertIsNone(recipe(*BENT))
        self.assertEqual(assert_own(self, chain, BENT[0], BENT[1], [2]), [[0, 1, 2], [2]])

    def test_the_first_goal_that_is_stuck(self):
        # Two bows behind one another: x -> y, x -> z, y -> z, with hidden ones above x, y and above x, z.
        causes, hidden = [[3, 4], [0, 3], [0, 1, 4], [], []], [3, 4]
        self.assertEqual(assert_own(self, stuck, causes, hidden, 0, 2), ([1], [0, 1]))

    def test_by_chance(self):
        seen = [0, 0]
        for causes, hidden, x, y in some_questions(111, 400, 7):
            clumps = clumps_by_hand(causes, hidden, counting_by_hand(causes, hidden, x, y))
            chains, stuck_at = [], None
            for clump in clumps:
                lists, around = chain_by_hand(causes, hidden, clump)
                self.assertEqual(assert_own(self, chain, causes, hidden, clump), lists)
                chains.append(lists)
                if lists is None and stuck_at is None:
                    stuck_at = (clump, around)
            self.assertEqual(assert_own(self, stuck, causes, hidden, x, y), stuck_at)
            seen[stuck_at is None] += 1
            if stuck_at is not None:
                self.assertIsNone(recipe(causes, hidden, x, y))
                continue
            self.assertEqual(assert_own(self, recipe, causes, hidden, x, y), chains)
            for lists in chains:
                self.assertIs(assert_own(self, is_chain, causes, hidden, lists), True)
        self.assertGreater(min(seen), 40)


class IsChain(unittest.TestCase):
    def check(self, question, lists, wanted):
        self.assertIs(assert_own(self, is_chain, question[0], question[1], lists), wanted)

    def test_what_is_one(self):
        self.check(FRONT, [[0, 1, 2]], True)
        self.check(FRONT, [[0, 1, 2], [1]], True)
        self.check(FRONT, [[0, 1, 2], [0, 2]], True)
        self.check(FRONT, [[0, 1, 2], [0, 2], [2]], True)
        self.check(FRONT, [[0, 1, 2], [0, 2], [0]], True)
        self.check(FRONT, [[0, 1, 2], [0, 1], [0]], True)
        self.check(NAPKIN, [[0, 1, 2, 3], [0, 1, 2], [0, 2], [0]], True)
        self.check(([], []), [[]], True)

    def test_the_first_is_all_seen_things(self):
        self.check(FRONT, [], False)
        self.check(FRONT, [[]], False)
        self.check(FRONT, [[0, 1]], False)
        self.check(FRONT, [[0, 1, 2, 3]], False)
        self.check(FRONT, [[1], [1]], False)
        self.check(([], []), [], False)

    def test_an_empty_one(self):
        self.check(FRONT, [[0, 1, 2], []], False)
        self.check(FRONT, [[0, 1, 2], [0, 2], []], False)
        self.check(FRONT, [[0, 1, 2], [], [0]], False)

    def test_one_as_long_as_the_one_ahead(self):
        self.check(FRONT, [[0, 1, 2], [0, 1, 2]], False)
        self.check(FRONT, [[0, 1, 2], [0, 2], [0, 2]], False)
        self.check(FRONT, [[0, 1, 2], [0, 2], [0, 1]], False)

    def test_neither_a_clump_nor_all_above(self):
        self.check(FRONT, [[0, 1, 2], [2]], False)
        self.check(FRONT, [[0, 1, 2], [1, 2]], False)
        self.check(BACK, [[0, 1, 2], [1, 2]], False)
        self.check(BOW, [[0, 1], [1]], False)
        self.check(BOW, [[0, 1], [0]], True)

    def test_things_that_the_one_ahead_has_not(self):
        self.check(FRONT, [[0, 1, 2], [3]], False)
        self.check(FRONT, [[0, 1, 2], [0, 3]], False)
        self.check(FRONT, [[0, 1, 2], [0, 2], [1]], False)
        self.check(([[], [], []], []), [[0, 1, 2], [0, 1], [2]], False)

    def test_by_chance(self):
        source = source_of(112)
        seen = [0, 0]
        for causes, hidden, x, y in some_questions(113, 300, 4):
            things = seen_of(causes, hidden)
            lists = [things]
            for turn in range(source.randint(1, 2)):
                lists = lists + [sorted(source.sample(things, source.randint(0, len(things))))]
            wanted = True
            for ahead, part in zip(lists, lists[1:]):
                is_all_above = set(part) <= set(ahead) and above_by_hand(causes, part, ahead) == part
                good = 0 < len(part) < len(ahead)
                wanted = wanted and good and (part in clumps_by_hand(causes, hidden, ahead) or is_all_above)
            seen[wanted] += 1
            self.assertIs(is_chain(causes, hidden, lists), wanted)
        self.assertGreater(min(seen), 30)


class TheSeenSheet(unittest.TestCase):
    def test_by_hand(self):
        book = ([2, 2, 2], [[2], [0, 2], []], [[[1, 1], [1, 3]], [[1, 0], [1, 1], [0, 1], [1, 1]], [[1, 1]]])
        self.assertEqual(assert_own(self, seen_sheet, book, [2]), [(5, 16), (1, 16), (3, 16), (7, 16)])
        self.assertEqual(assert_own(self, seen_sheet, ([], [], []), []), [(1, 1)])

    def test_by_chance(self):
        source = source_of(114)
        for causes, hidden, x, y in some_questions(115, 40, 4):
            book = random_book(source, causes, noughts=source.choice((0.0, 0.3)))
            whole, seen = whole_of(book), seen_of(causes, hidden)
            wanted = []
            for values in worlds_of([book[0][k] for k in seen]):
                wanted.append(pair(sum_over(whole, view_with(len(causes), dict(zip(seen, values))))))
            self.assertEqual(assert_own(self, seen_sheet, book, hidden), wanted)


def random_shares(source, count):
    return [pair(Fraction(source.randint(1, 9), source.randint(1, 9))) for place in range(count)]


class Worked(unittest.TestCase):
    def test_by_hand(self):
        # x and y alone, x -> y: the chain to [1] tells p(y where x).
        shares = [(1, 8), (3, 8), (1, 3), (1, 6)]
        told_now = assert_own(self, worked, [2, 2], [[], [0]], [], [[0, 1], [1]], shares)
        self.assertEqual(told_now, [(1, 4), (3, 4), (2, 3), (1, 3)])
        told_now = assert_own(self, worked, [2, 2], [[], [0]], [], [[0, 1], [0]], shares)
        self.assertEqual(told_now, [(1, 2)] * 4)

    def test_a_clump_or_what_is_left(self):
        # Above within [0, 1] is [0], and it is no clump where u hides above both: the shares are summed.
        shares = [(1, 1), (2, 1), (3, 1), (4, 1)]
        told_now = assert_own(self, worked, [2, 2, 2], BOW[0], BOW[1], [[0, 1], [0]], shares)
        self.assertEqual(told_now, [(3, 1), (3, 1), (7, 1), (7, 1)])
        # The same where it is a clump: over the sum of all.
        told_now = assert_own(self, worked, [2, 2], [[], [0]], [], [[0, 1], [0]], shares)
        self.assertEqual(told_now, [(3, 10), (3, 10), (7, 10), (7, 10)])

    def test_the_first_one_alone_is_a_new_list(self):
        shares = [(1, 4), (1, 4), (1, 4), (1, 4)]
        self.assertEqual(assert_own(self, worked, [2, 2], [[], [0]], [], [[0, 1]], shares), shares)
        self.assertEqual(assert_own(self, worked, [], [], [], [[]], [(3, 2)]), [(3, 2)])

    def test_the_order_of_the_shape_and_not_of_the_numbers(self):
        # 1 -> 0
        shares = [(1, 1), (2, 1), (3, 1), (4, 1)]
        told_now = assert_own(self, worked, [2, 2], [[1], []], [], [[0, 1], [0]], shares)
        self.assertEqual(told_now, [(1, 4), (1, 3), (3, 4), (2, 3)])

    def test_shares_that_are_not_above_0(self):
        for wrong in ((0, 1), (-1, 2)):
            for place in range(4):
                shares = [(1, 4)] * 4
                shares[place] = wrong
                assert_refused(self, NoGround, worked, [2, 2], [[], [0]], [], [[0, 1], [1]], shares)
                assert_refused(self, NoGround, worked, [2, 2], [[], [0]], [], [[0, 1]], shares)

    def test_by_chance_to_the_letter(self):
        source = source_of(116)
        seen = 0
        for causes, hidden, x, y in some_questions(117, 80, 5):
            sizes = [source.choice((2, 2, 3)) for k in causes]
            chains = recipe(causes, hidden, x, y)
            count = len(list(worlds_of([sizes[k] for k in seen_of(causes, hidden)])))
            shares = random_shares(source, count)
            for lists in chains or []:
                seen += len(lists) > 2
                told_now = assert_own(self, worked, sizes, causes, hidden, lists, shares)
                self.assertEqual(told_now, worked_by_hand(sizes, causes, hidden, lists, shares))
        self.assertGreater(seen, 10)

    def test_chains_that_no_recipe_has(self):
        source = source_of(118)
        seen = 0
        for causes, hidden, x, y in some_questions(119, 200, 4):
            lists = [seen_of(causes, hidden)]
            while True:
                ahead = lists[-1]
                choices = clumps_by_hand(causes, hidden, ahead)
                choices += [above_by_hand(causes, [k], ahead) for k in ahead]
                choices = [part for part in choices if len(part) < len(ahead)]
                if not choices:
                    break
                lists = lists + [source.choice(choices)]
            self.assertTrue(is_chain(causes, hidden, lists))
            seen += len(lists) > 2
            sizes = [2] * len(causes)
            shares = random_shares(source, 2 ** len(lists[0]))
            self.assertEqual(worked(sizes, causes, hidden, lists, shares),
                             worked_by_hand(sizes, causes, hidden, lists, shares))
        self.assertGreater(seen, 50)


class Told(unittest.TestCase):
    def test_by_hand(self):
        # Over z: the sum of p(z) p(y = 0 where x = 0 and z).
        shares = [pair(Fraction(n, 40)) for n in (4, 2, 6, 8, 3, 1, 8, 8)]
        wanted = Fraction(1, 2) * Fraction(4, 6) + Fraction(1, 2) * Fraction(3, 4)
        self.assertEqual(assert_own(self, told, [2, 2, 2], *BACK[:3], 0, BACK[3], 0, shares), pair(wanted))

    def test_on_books_it_is_the_chance_by_setting(self):
        source = source_of(120)
        seen = 0
        for causes, hidden, x, y in some_questions(121, 120, 4):
            if recipe(causes, hidden, x, y) is None:
                continue
            seen += len(hidden) > 0
            book = random_book(source, causes)
            shares = seen_sheet(book, hidden)
            for a in range(book[0][x]):
                whole = whole_of(set_by_hand(book, x, a))
                for b in range(book[0][y]):
                    told_now = told(book[0], causes, hidden, x, a, y, b, shares)
                    self.assertEqual(told_now, by_setting(book, x, a, y, b))
                    self.assertEqual(told_now, pair(sum_over(whole, view_with(len(causes), {y: b}))))
        self.assertGreater(seen, 30)

    def test_on_books_with_noughts_but_none_in_the_seen_sheet(self):
        source = source_of(122)
        seen = 0
        for turn in range(200):
            book = random_book(source, FRONT[0], [2, 2, 2, 2], noughts=0.2)
            shares = seen_sheet(book, FRONT[1])
            if min(one[0] for one in shares) > 0 and 0 in sum(sum(book[2], []), []):
                seen += 1
                for a, b in itertools.product((0, 1), repeat=2):
                    self.assertEqual(told(book[0], *FRONT[:3], a, 2, b, shares), by_setting(book, 0, a, 2, b))
        self.assertGreater(seen, 10)

    def test_the_front_door_the_napkin_and_sixty_figures(self):
        for causes, hidden, x, y in (FRONT, NAPKIN, BACK):
            book = random_book(source_of(123), causes, greatest=10 ** 60 - 1)
            shares = seen_sheet(book, hidden)
            for a, b in itertools.product(range(2), repeat=2):
                self.assertEqual(told(book[0], causes, hidden, x, a, y, b, shares), by_setting(book, x, a, y, b))

    def test_any_shares_to_the_letter(self):
        source = source_of(124)
        for causes, hidden, x, y in some_questions(125, 60, 4):
            if recipe(causes, hidden, x, y) is not None:
                sizes = [source.choice((2, 3)) for k in causes]
                count = len(list(worlds_of([sizes[k] for k in seen_of(causes, hidden)])))
                shares = random_shares(source, count)
                a, b = source.randrange(sizes[x]), source.randrange(sizes[y])
                self.assertEqual(assert_own(self, told, sizes, causes, hidden, x, a, y, b, shares),
                                 told_by_hand(sizes, causes, hidden, x, a, y, b, shares))

    def test_no_recipe(self):
        for causes, hidden, x, y in (BOW, BENT):
            count = 2 ** len(seen_of(causes, hidden))
            sizes = [2] * len(causes)
            assert_refused(self, NotTold, told, sizes, causes, hidden, x, 0, y, 0, [(1, count)] * count)
            # Ahead of shares that are no ground.
            assert_refused(self, NotTold, told, sizes, causes, hidden, x, 0, y, 0, [(0, 1)] * count)

    def test_no_ground(self):
        for wrong in ((0, 1), (-1, 8)):
            for place in range(8):
                shares = [(1, 8)] * 8
                shares[place] = wrong
                assert_refused(self, NoGround, told, [2] * 3, *BACK[:3], 0, BACK[3], 0, shares)
                assert_refused(self, NoGround, told, [2] * 4, *FRONT[:3], 1, FRONT[3], 1, shares)

    def test_just_4096_seen_worlds(self):
        causes = [[]] + [[k] for k in range(11)]
        book = random_book(source_of(126), causes, [2] * 12)
        shares = seen_sheet(book, [])
        self.assertEqual(len(shares), 4096)
        self.assertEqual(told(book[0], causes, [], 4, 1, 9, 0, shares), by_setting(book, 4, 1, 9, 0))


if __name__ == "__main__":
    unittest.main()
