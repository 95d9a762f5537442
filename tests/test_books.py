"""Books: points [9] to [12], and what point [2] says of them."""

import copy
import itertools
import unittest
from fractions import Fraction

from causebook.books import book, by_worlds, chance_at, row_at, set_to, world_chance
from causebook.errors import NoBook, Ring
from helper import (NO_LISTS, NOT_WHOLE, assert_own, assert_refused, assert_ring, chance_of_value, pair, random_book,
                    random_shape, random_view, set_by_hand, some_books, source_of, sum_over, view_with, whole_of)

GREAT = 10 ** 60 - 1

# Rain, a sprinkler that runs less where it rains, and the grass, wet by both.
GARDEN = (
    [2, 2, 2],
    [[], [0], [0, 1]],
    [[[4, 1]], [[6, 4], [99, 1]], [[1, 0], [1, 9], [2, 8], [1, 99]]],
)
# The same with a ring: the grass is a cause of the rain.
RING = (
    [2, 2, 2],
    [[2], [0], [0, 1]],
    [[[4, 1], [1, 1]], [[6, 4], [99, 1]], [[1, 0], [1, 9], [2, 8], [1, 99]]],
)
SELF = ([2], [[0]], [[[1, 2], [3, 4]]])


class Made(unittest.TestCase):
    def made(self, parts):
        told = assert_own(self, book, *parts)
        self.assertIs(type(told), tuple)
        self.assertEqual(told, parts)
        return told

    def test_good_ones(self):
        self.made(([], [], []))
        self.made(([2], [[]], [[[1, 0]]]))
        self.made(([4], [[]], [[[0, 0, 0, 1]]]))
        self.made(([3, 2], [[1], []], [[[1, 2, 3], [0, 0, 7]], [[GREAT, 0]]]))
        self.made(GARDEN)

    def test_five_causes_and_twelve_things(self):
        wide = [[] for k in range(5)] + [[0, 1, 2, 3, 4]]
        self.made(random_book(source_of(1), wide, [4] * 6))
        self.made(random_book(source_of(2), [[] for k in range(12)], [2, 3, 4] * 4))
        for seed in range(6):
            causes = random_shape(source_of(seed), 12, thick=0.9)
            self.assertEqual(max(len(own) for own in causes), 5)
            self.made(random_book(source_of(seed), causes, greatest=GREAT, noughts=0.2))

    def test_by_chance(self):
        for parts in some_books(3, 60):
            self.made(parts)

    def test_changes_to_what_was_handed_in_do_nothing(self):
        sizes, causes, tables = copy.deepcopy(GARDEN)
        told = book(sizes, causes, tables)
        other = book(sizes, causes, tables)
        sizes[0] = 9
        causes[2].append(7)
        causes.append([])
        tables[0][0][0] = -1
        tables[1].append([0])
        other[2][2][3][1] = 5
        other[1][1].clear()
        other[0].append(3)
        self.assertEqual(told, GARDEN)

    def test_a_part_that_stands_twice_is_made_twice(self):
        row, own = [1, 1], []
        told = book([2, 2], [own, own], [[row], [row]])
        told[2][0][0][0] = 8
        told[1][0].append(1)
        self.assertEqual(told[2][1], [[1, 1]])
        self.assertEqual(told[1][1], [])
        self.assertEqual((row, own), ([1, 1], []))


class Refused(unittest.TestCase):
    def wrong(self, change):
        """What the change makes of a good book, and of one with a ring: NoBook either way."""
        for parts in (GARDEN, RING):
            found = copy.deepcopy(parts)
            changed = change(list(found))
            with self.subTest(parts=changed):
                assert_refused(self, NoBook, book, *changed)

    def at(self, part, places, thing):
        def change(parts):
            inner = parts
            for place in [part] + places[:-1] if places else []:
                inner = inner[place]
            inner[places[-1] if places else part] = thing
            return parts
        self.wrong(change)

    def test_another_kind_for_any_of_the_lists(self):
        for thing in NO_LISTS:
            for part in (0, 1, 2):
                self.at(part, [], thing)
            self.at(1, [1], thing)
            self.at(2, [1], thing)
            self.at(2, [1, 0], thing)

    def test_a_tuple_of_the_same_is_no_list(self):
        for part in (0, 1, 2):
            self.at(part, [], tuple(GARDEN[part]))
        self.at(1, [1], (0,))
        self.at(2, [1], ([6, 4], [99, 1]))
        self.at(2, [1, 0], (6, 4))
        assert_refused(self, NoBook, book, (), [], [])
        assert_refused(self, NoBook, book, [], (), [])
        assert_refused(self, NoBook, book, [], [], ())

    def test_lists_too_long_or_too_short(self):
        for part, more in ((0, 2), (1, []), (2, [[1, 1]])):
            self.wrong(lambda parts: parts[:part] + [parts[part] + [more]] + parts[part + 1:])
            self.wrong(lambda parts: parts[:part] + [parts[part][:-1]] + parts[part + 1:])
            self.wrong(lambda parts: parts[:part] + [[]] + parts[part + 1:])
        self.at(2, [1], [[6, 4]])
        self.at(2, [1], [[6, 4], [99, 1], [1, 1]])
        self.at(2, [1], [])
        self.at(2, [1, 0], [6])
        self.at(2, [1, 0], [6, 4, 1])
        self.at(2, [1, 0], [])

    def test_sizes(self):
        for size in [1, 0, -1, -2, 5, 9, 10 ** 60, [2], []] + NOT_WHOLE:
            self.at(0, [1], size)
        for size in (1, 5, 9):
            assert_refused(self, NoBook, book, [size], [[]], [[[1] * size]])
        assert_refused(self, NoBook, book, [0], [[]], [[[]]])
        assert_refused(self, NoBook, book, [0], [[]], [[]])

    def test_causes(self):
        for cause in [-1, -3, 3, 4, 10 ** 60, [0]] + NOT_WHOLE:
            self.at(1, [1], [cause])
        self.at(1, [2], [0, 0])
        self.at(1, [2], [1, 0])
        self.at(1, [2], [0, 1, 1])
        self.at(1, [2], [0, True])
        self.at(1, [2], [False, 1])
        self.at(1, [2], [-1, 1])
        assert_refused(self, NoBook, book, [2, 2], [[], [0, 0]], [[[1, 1]], [[1, 1]] * 4])

    def test_six_causes(self):
        wide = random_book(source_of(4), [[] for k in range(6)] + [[0, 1, 2, 3, 4, 5]], [2] * 7)
        assert_refused(self, NoBook, book, *wide)
        wide = random_book(source_of(4), [[0]] + [[] for k in range(5)] + [[0, 1, 2, 3, 4, 5]], [2] * 7)
        assert_refused(self, NoBook, book, *wide)

    def test_thirteen_things(self):
        assert_refused(self, NoBook, book, *random_book(source_of(5), [[] for k in range(13)]))
        assert_refused(self, NoBook, book, *random_book(source_of(5), [[0]] + [[] for k in range(12)]))
        assert_refused(self, NoBook, book, *random_book(source_of(5), [[] for k in range(40)]))

    def test_weights(self):
        for weight in [-1, -10 ** 59, [1], []] + NOT_WHOLE:
            self.at(2, [1, 0, 1], weight)
            self.at(2, [2, 3, 0], weight)

    def test_a_row_of_noughts(self):
        self.at(2, [1, 0], [0, 0])
        self.at(2, [2, 3], [0, 0])
        # These come to 0, but not all are 0.
        self.at(2, [1, 0], [-1, 1])

    def test_a_ring(self):
        assert_ring(self, RING[1], assert_refused(self, Ring, book, *RING).ring)
        self.assertEqual(assert_refused(self, Ring, book, *SELF).ring, [0])
        twelve = [[(k + 11) % 12] for k in range(12)]
        told = assert_refused(self, Ring, book, *random_book(source_of(6), twelve))
        self.assertEqual(told.ring, list(range(12)))

    def test_a_ring_and_something_wrong(self):
        assert_refused(self, NoBook, book, [2], [[0]], [[[1, 2]]])
        assert_refused(self, NoBook, book, [2], [[0]], [[[1, 2], [0, 0]]])
        assert_refused(self, NoBook, book, [2], [[0, 1]], [[[1, 2], [3, 4]]])


class Chances(unittest.TestCase):
    def test_by_hand(self):
        self.assertEqual(assert_own(self, row_at, GARDEN, 0, [1, 1, 0]), [4, 1])
        self.assertEqual(assert_own(self, row_at, GARDEN, 1, [1, 1, 0]), [99, 1])
        self.assertEqual(assert_own(self, row_at, GARDEN, 2, [1, 0, 0]), [2, 8])
        self.assertEqual(assert_own(self, row_at, GARDEN, 2, [0, 1, 0]), [1, 9])
        self.assertEqual(chance_at(GARDEN, 0, [1, 0, 1]), (1, 5))
        self.assertEqual(chance_at(GARDEN, 1, [0, 0, 1]), (3, 5))
        self.assertEqual(chance_at(GARDEN, 2, [1, 0, 1]), (4, 5))
        self.assertEqual(chance_at(GARDEN, 2, [0, 0, 1]), (0, 1))
        self.assertEqual(chance_at(GARDEN, 2, [0, 0, 0]), (1, 1))
        self.assertEqual(world_chance(GARDEN, [0, 0, 0]), (12, 25))
        self.assertEqual(world_chance(GARDEN, [0, 0, 1]), (0, 1))
        self.assertEqual(world_chance(GARDEN, [1, 0, 1]), pair(Fraction(1, 5) * Fraction(99, 100) * Fraction(4, 5)))
        self.assertEqual(by_worlds(GARDEN, [1, None, None]), (1, 5))
        self.assertEqual(by_worlds(GARDEN, [None, 1, None]), pair(Fraction(8, 25) + Fraction(1, 500)))
        self.assertEqual(by_worlds(GARDEN, [0, None, 1]), pair(Fraction(4, 5) * Fraction(2, 5) * Fraction(9, 10)))

    def test_no_things(self):
        empty = ([], [], [])
        self.assertEqual(world_chance(empty, []), (1, 1))
        self.assertEqual(by_worlds(empty, []), (1, 1))

    def test_rows_by_causes_that_stand_later(self):
        # The causes are 1 and 2, in this order, of sizes 3 and 2.
        told = ([2, 3, 2], [[1, 2], [], []], [[[1, k] for k in range(1, 7)], [[1, 1, 1]], [[1, 1]]])
        self.assertEqual(row_at(told, 0, [0, 2, 0]), [1, 5])
        self.assertEqual(row_at(told, 0, [0, 1, 1]), [1, 4])
        self.assertEqual(chance_at(told, 0, [1, 2, 1]), (6, 7))

    def test_by_chance(self):
        source = source_of(11)
        for parts in some_books(12, 50):
            whole = whole_of(parts)
            sizes = parts[0]
            for world in itertools.islice(whole, 12):
                self.assertEqual(assert_own(self, world_chance, parts, list(world)), pair(whole[world]))
                for k in range(len(sizes)):
                    told = assert_own(self, chance_at, parts, k, list(world))
                    self.assertEqual(told, pair(chance_of_value(parts, k, world)))
                    row = assert_own(self, row_at, parts, k, list(world))
                    self.assertIn(row, parts[2][k])
                    self.assertEqual(Fraction(row[world[k]], sum(row)), chance_of_value(parts, k, world))
            for view in ([None] * len(sizes), random_view(source, sizes), random_view(source, sizes, 0.8)):
                told = assert_own(self, by_worlds, parts, view)
                self.assertEqual(told, pair(sum_over(whole, view)))
            self.assertEqual(by_worlds(parts, [None] * len(sizes)), (1, 1))
            self.assertEqual(sum(whole.values()), 1)

    def test_sixty_figures(self):
        told = ([2, 2], [[], [0]], [[[GREAT, 1]], [[0, GREAT], [GREAT, 10 ** 59]]])
        self.assertEqual(world_chance(told, [0, 1]), (GREAT, 10 ** 60))
        self.assertEqual(by_worlds(told, [None, 0]), pair(Fraction(1, 10 ** 60) * Fraction(GREAT, GREAT + 10 ** 59)))
        self.assertEqual(by_worlds(told, [None, None]), (1, 1))

    def test_just_4096_worlds(self):
        for causes, size in ((random_shape(source_of(13), 12), 2), (random_shape(source_of(14), 6), 4)):
            parts = random_book(source_of(15), causes, [size] * len(causes))
            self.assertEqual(by_worlds(parts, [None] * len(causes)), (1, 1))

    def test_one_world_of_far_more_than_4096(self):
        source = source_of(16)
        causes = random_shape(source, 12, thick=0.9)
        parts = random_book(source, causes, [4] * 12)
        world = [source.randrange(4) for k in range(12)]
        expected = Fraction(1)
        for k in range(12):
            expected *= chance_of_value(parts, k, world)
            self.assertEqual(chance_at(parts, k, world), pair(chance_of_value(parts, k, world)))
            self.assertEqual(len(row_at(parts, k, world)), 4)
        self.assertEqual(world_chance(parts, world), pair(expected))
        self.assertEqual(by_worlds(parts, world), pair(expected))


class Setting(unittest.TestCase):
    def test_by_hand(self):
        told = assert_own(self, set_to, GARDEN, 1, 1)
        self.assertEqual(told, ([2, 2, 2], [[], [], [0, 1]], [GARDEN[2][0], [[0, 1]], GARDEN[2][2]]))
        self.assertEqual(by_worlds(told, [1, None, None]), (1, 5))
        self.assertEqual(by_worlds(told, [None, 1, None]), (1, 1))
        self.assertEqual(by_worlds(told, [None, None, 1]), pair(Fraction(4, 5) * Fraction(9, 10)
                                                                + Fraction(1, 5) * Fraction(99, 100)))

    def test_set_twice_the_last_counts(self):
        self.assertEqual(set_to(set_to(GARDEN, 2, 0), 2, 1), set_to(GARDEN, 2, 1))
        self.assertNotEqual(set_to(GARDEN, 2, 0), set_to(GARDEN, 2, 1))

    def test_by_chance(self):
        source = source_of(17)
        for parts in some_books(18, 60, numbers=(1, 2, 4, 6)):
            k = source.randrange(len(parts[0]))
            for a in range(parts[0][k]):
                told = assert_own(self, set_to, parts, k, a)
                self.assertEqual(told, set_by_hand(parts, k, a))
                self.assertEqual(book(*told), told)
                self.assertEqual(by_worlds(told, view_with(len(parts[0]), {k: a})), (1, 1))


if __name__ == "__main__":
    unittest.main()
