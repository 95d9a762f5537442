"""The interface: every name that the document lists is there, with its arguments as they stand."""

import importlib
import inspect
import unittest

WANTED = {
    "shares": ["share(top, bottom)", "plus(one, other)", "minus(one, other)", "times(one, other)",
               "over(one, other)", "total(shares)", "under(one, other)"],
    "worlds": ["count_of(sizes)", "worlds(sizes)", "rank(sizes, world)", "world_at(sizes, place)",
               "agrees(world, view)", "worlds_by(sizes, view)"],
    "shapes": ["order_of(causes)", "effects(causes, k)", "above(causes, some)", "beneath(causes, some)",
               "way_down(causes, k, some)", "without(causes, pairs)"],
    "books": ["book(sizes, causes, tables)", "row_at(book, k, world)", "chance_at(book, k, world)",
              "world_chance(book, world)", "by_worlds(book, view)", "set_to(book, k, a)"],
    "sheets": ["leaf(book, k, view)", "joined(sizes, one, other)", "left_out(sizes, sheet, k)"],
    "sums": ["chance(book, view, order=None)", "widths(book, view, order=None)", "chance_given(book, view, known)",
             "spread(book, k, known)"],
    "reach": ["reach(causes, x, known)", "is_closed(causes, known, pairs)", "barred(causes, x, y, known)",
              "silent(causes, ones, others, known)", "parting(causes, x, y, among)",
              "least_parting(causes, x, y, known)"],
    "roads": ["is_road(causes, road)", "bar(causes, road, known)", "downs(causes, road, known)",
              "open_road(causes, x, y, known)"],
    "coins": ["tables_by(sizes, causes, plan)", "road_plan(causes, road, known)",
              "hanging(sizes, causes, x, y, known)"],
    "setting": ["by_setting(book, x, a, y, b)", "by_seeing(book, x, a, y, b, some)"],
    "adjust": ["on_ways(causes, x, y)", "cut_shape(causes, x, y)", "does(causes, x, y, some)",
               "why_not(causes, x, y, some)", "set_among(causes, x, y, among)", "least_set(causes, x, y, some)"],
    "against": ["against(sizes, causes, x, y, some)"],
    "likeliest": ["topped(sizes, sheet, k)", "best_chance(book, view, order=None)", "tops(book, k, view)",
                  "likeliest(book, view)"],
    "clumps": ["is_hidden(causes, hidden)", "seen_things(causes, hidden)", "clumps(causes, hidden, some)",
               "above_in(causes, some, within)"],
    "recipes": ["counting(causes, hidden, x, y)", "chain(causes, hidden, clump)", "recipe(causes, hidden, x, y)",
                "stuck(causes, hidden, x, y)", "is_chain(causes, hidden, lists)", "seen_sheet(book, hidden)",
                "worked(sizes, causes, hidden, lists, shares)", "told(sizes, causes, hidden, x, a, y, b, shares)"],
    "twins": ["tree(causes, hidden, small, great)", "feeds(causes, small, great)", "relays(causes, hidden, x, y)",
              "twins(causes, hidden, x, y)"],
    "texts": ["read(text)", "shown(names, book, hidden)"],
    "desk": ["Desk(text)"],
}


class TheInterface(unittest.TestCase):
    def test_names_and_arguments(self):
        for module, rows in WANTED.items():
            found = importlib.import_module("causebook." + module)
            for row in rows:
                with self.subTest(module=module, row=row):
                    name = row.split("(")[0]
                    function = getattr(found, name)
                    self.assertEqual(name + str(inspect.signature(function)), row)
                    self.assertEqual(function.__module__, "causebook." + module)

    def test_the_desk_is_a_class_that_is_told_rows(self):
        found = importlib.import_module("causebook.desk").Desk
        self.assertIsInstance(found, type)
        self.assertEqual(str(inspect.signature(found("").say)), "(row)")

    def test_modules_of_the_interface_are_all_there(self):
        for name in list(WANTED) + ["errors"]:
            importlib.import_module("causebook." + name)


if __name__ == "__main__":
    unittest.main()
