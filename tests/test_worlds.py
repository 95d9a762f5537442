"""Worlds: point [5], and what point [2] says of them."""

import inspect
import itertools
import random
import unittest

from causebook import worlds as module
from causebook.worlds import agrees, count_of, rank, world_at, worlds, worlds_by

# No sizes, sizes of 1, the greatest size, one and several, up to 4,096 worlds.
SIZES = [
    [], [1], [2], [9], [1, 1, 1], [1] * 12, [2, 3], [3, 2], [1, 4, 1], [9, 1, 9], [2, 3, 4], [9, 8, 7],
    [4, 3, 2, 1], [5, 6, 7, 8], [9, 9, 9, 5], [2] * 12, [4] * 6, [8] * 4,
]

# Far more than 4,096 worlds: these are never gone over.
GREAT = [[9] * 40, [2] * 200, [1, 9] * 60, [3, 1, 4, 1, 5, 9, 2, 6, 5, 3, 5] * 12, [7] * 1000]


def all_worlds(sizes):
    return [list(world) for world in itertools.product(*[range(size) for size in sizes])]


def views_of(sizes):
    choices = [[None] + list(range(size)) for size in sizes]
    return [list(view) for view in itertools.product(*choices)]


class TheInterface(unittest.TestCase):
    def test_names_and_arguments(self):
        wanted = {
            "count_of": ["sizes"], "worlds": ["sizes"], "rank": ["sizes", "world"], "world_at": ["sizes", "place"],
            "agrees": ["world", "view"], "worlds_by": ["sizes", "view"],
        }
        for name, arguments in wanted.items():
            with self.subTest(name=name):
                self.assertEqual(list(inspect.signature(getattr(module, name)).parameters), arguments)


class Counted(unittest.TestCase):
    def test_small_ones(self):
        self.assertEqual(count_of([]), 1)
        self.assertEqual(count_of([1]), 1)
        self.assertEqual(count_of([9]), 9)
        self.assertEqual(count_of([2, 3, 4]), 24)
        self.assertEqual(count_of([2] * 12), 4096)

    def test_as_many_as_there_are(self):
        for sizes in SIZES:
            self.assertEqual(count_of(sizes), len(all_worlds(sizes)))

    def test_far_more(self):
        self.assertEqual(count_of([9] * 40), 9 ** 40)
        self.assertEqual(count_of([1, 9] * 60), 9 ** 60)
        self.assertEqual(count_of([7] * 1000), 7 ** 1000)


class AllOfThem(unittest.TestCase):
    def test_of_no_sizes_there_is_one(self):
        self.assertEqual(worlds([]), [[]])

    def test_small_ones_in_order(self):
        self.assertEqual(worlds([1]), [[0]])
        self.assertEqual(worlds([3]), [[0], [1], [2]])
        self.assertEqual(worlds([2, 3]), [[0, 0], [0, 1], [0, 2], [1, 0], [1, 1], [1, 2]])
        self.assertEqual(worlds([2, 1, 2]), [[0, 0, 0], [0, 0, 1], [1, 0, 0], [1, 0, 1]])

    def test_all_in_order(self):
        for sizes in SIZES:
            with self.subTest(sizes=sizes):
                told = worlds(sizes)
                self.assertEqual(told, all_worlds(sizes))
                self.assertEqual(told, sorted(told))
                self.assertEqual(len(told), count_of(sizes))

    def test_they_are_lists(self):
        for sizes in SIZES:
            told = worlds(sizes)
            self.assertIs(type(told), list)
            for world in told:
                self.assertIs(type(world), list)


class Ranked(unittest.TestCase):
    def test_of_no_sizes(self):
        self.assertEqual(rank([], []), 0)
        self.assertEqual(world_at([], 0), [])

    def test_small_ones(self):
        self.assertEqual(rank([2, 3], [1, 0]), 3)
        self.assertEqual(rank([3, 2], [1, 1]), 3)
        self.assertEqual(world_at([2, 3], 3), [1, 0])
        self.assertEqual(world_at([3, 2], 3), [1, 1])

    def test_the_place_in_the_order(self):
        for sizes in SIZES:
            for place, world in enumerate(all_worlds(sizes)):
                self.assertEqual(rank(sizes, world), place)
                self.assertEqual(world_at(sizes, place), world)

    def test_the_first_and_the_last_place(self):
        for sizes in SIZES + GREAT:
            first, last = [0] * len(sizes), [size - 1 for size in sizes]
            self.assertEqual(rank(sizes, first), 0)
            self.assertEqual(rank(sizes, last), count_of(sizes) - 1)
            self.assertEqual(world_at(sizes, 0), first)
            self.assertEqual(world_at(sizes, count_of(sizes) - 1), last)

    def test_they_undo_one_another_with_many_sizes(self):
        source = random.Random(5)
        for sizes in GREAT:
            for turn in range(20):
                place = source.randrange(count_of(sizes))
                world = [source.randrange(size) for size in sizes]
                self.assertEqual(rank(sizes, world_at(sizes, place)), place)
                self.assertEqual(world_at(sizes, rank(sizes, world)), world)

    def test_the_order_holds_with_many_sizes(self):
        source = random.Random(55)
        for sizes in GREAT:
            for turn in range(20):
                one = [source.randrange(size) for size in sizes]
                other = [source.randrange(size) for size in sizes]
                self.assertEqual(rank(sizes, one) < rank(sizes, other), one < other)

    def test_the_world_told_is_a_list_of_values(self):
        for sizes in SIZES + GREAT:
            told = world_at(sizes, count_of(sizes) // 2)
            self.assertIs(type(told), list)
            self.assertEqual(len(told), len(sizes))
            for value, size in zip(told, sizes):
                self.assertIn(value, range(size))


class Viewed(unittest.TestCase):
    def test_a_view_that_knows_nothing(self):
        self.assertIs(agrees([], []), True)
        self.assertIs(agrees([1, 0], [None, None]), True)
        for sizes in SIZES:
            self.assertEqual(worlds_by(sizes, [None] * len(sizes)), all_worlds(sizes))

    def test_a_view_that_knows_all(self):
        self.assertIs(agrees([1, 0], [1, 0]), True)
        self.assertIs(agrees([1, 0], [1, 1]), False)
        self.assertIs(agrees([1, 0], [0, 0]), False)
        for sizes in SIZES:
            for view in ([0] * len(sizes), [size - 1 for size in sizes]):
                self.assertEqual(worlds_by(sizes, view), [view])

    def test_a_view_that_knows_some(self):
        self.assertIs(agrees([1, 0, 2], [None, 0, None]), True)
        self.assertIs(agrees([1, 0, 2], [None, 1, None]), False)
        self.assertIs(agrees([1, 0, 2], [1, None, 2]), True)
        self.assertIs(agrees([1, 0, 2], [1, None, 0]), False)
        self.assertEqual(worlds_by([2, 3], [None, 1]), [[0, 1], [1, 1]])
        self.assertEqual(worlds_by([2, 3], [1, None]), [[1, 0], [1, 1], [1, 2]])
        self.assertEqual(worlds_by([2, 1, 2], [None, 0, 1]), [[0, 0, 1], [1, 0, 1]])

    def test_a_known_nought_is_known(self):
        self.assertIs(agrees([0], [0]), True)
        self.assertIs(agrees([1], [0]), False)
        self.assertIs(agrees([1, 1], [None, 0]), False)
        self.assertEqual(worlds_by([3], [0]), [[0]])
        self.assertEqual(worlds_by([2, 2], [None, 0]), [[0, 0], [1, 0]])

    def test_all_views_of_small_sizes(self):
        for sizes in ([], [1], [2], [2, 3], [3, 1, 2], [2, 2, 2, 2], [9, 2], [4, 4, 3]):
            for view in views_of(sizes):
                wanted = []
                for world in all_worlds(sizes):
                    fit = all(view[k] is None or view[k] == world[k] for k in range(len(sizes)))
                    self.assertIs(agrees(world, view), fit)
                    if fit:
                        wanted.append(world)
                self.assertEqual(worlds_by(sizes, view), wanted)

    def test_some_views_of_greater_sizes(self):
        source = random.Random(555)
        for sizes in ([2] * 12, [4] * 6, [8] * 4, [9, 9, 9, 5], [5, 6, 7, 8]):
            for turn in range(6):
                view = [source.choice([None, None, source.randrange(size)]) for size in sizes]
                wanted = [world for world in all_worlds(sizes) if agrees(world, view)]
                told = worlds_by(sizes, view)
                self.assertEqual(told, wanted)
                self.assertEqual(told, sorted(told))

    def test_they_are_lists(self):
        told = worlds_by([2, 3, 2], [None, 2, None])
        self.assertIs(type(told), list)
        for world in told:
            self.assertIs(type(world), list)


class NothingIsChangedOrShared(unittest.TestCase):
    def test_what_is_handed_in_stays(self):
        for size_list in SIZES:
            sizes = list(size_list)
            world = [size - 1 for size in sizes]
            view = [None if k % 2 else size - 1 for k, size in enumerate(sizes)]
            handed = (list(sizes), list(world), list(view))
            for ask in (
                lambda: count_of(sizes), lambda: worlds(sizes), lambda: rank(sizes, world),
                lambda: world_at(sizes, count_of(sizes) - 1), lambda: agrees(world, view),
                lambda: worlds_by(sizes, view),
            ):
                ask()
                self.assertEqual((sizes, world, view), handed)

    def asked_again(self, ask, wanted):
        told = ask()
        self.assertEqual(told, wanted)
        for world in told:
            world.append(99)
            world[0] = 77
        told.append("more")
        self.assertEqual(ask(), wanted)

    def test_worlds_are_the_askers_own(self):
        for sizes in SIZES:
            self.asked_again(lambda: worlds(sizes), all_worlds(sizes))

    def test_worlds_by_are_the_askers_own(self):
        for sizes in SIZES:
            for view in ([None] * len(sizes), [0] * len(sizes), [size - 1 for size in sizes]):
                before = list(view)
                self.asked_again(lambda: worlds_by(sizes, view), [w for w in all_worlds(sizes) if agrees(w, view)])
                self.assertEqual(view, before)

    def test_a_world_is_the_askers_own(self):
        for sizes in SIZES + GREAT:
            before = list(sizes)
            told = world_at(sizes, 0)
            told.append(99)
            told[0] = 77
            self.assertEqual(world_at(sizes, 0), [0] * len(sizes))
            self.assertEqual(sizes, before)

    def test_no_two_lists_told_are_one(self):
        for sizes in SIZES:
            told = worlds(sizes)
            told_by = worlds_by(sizes, [None] * len(sizes))
            lists = told + told_by + [told, told_by, world_at(sizes, 0), sizes]
            self.assertEqual(len({id(one) for one in lists}), len(lists))

    def test_what_was_told_stays(self):
        sizes, view = [2, 2], [None, 1]
        before = (worlds(sizes), worlds_by(sizes, view), world_at(sizes, 3))
        sizes[0] = 9
        view[1] = None
        worlds(sizes)
        worlds_by(sizes, view)
        world_at(sizes, 7)
        self.assertEqual(before, ([[0, 0], [0, 1], [1, 0], [1, 1]], [[0, 1], [1, 1]], [1, 1]))


if __name__ == "__main__":
    unittest.main()
