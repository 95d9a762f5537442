"""Texts: point [37], and what point [2] says of them."""

import itertools
import unittest

from causebook.books import book
from causebook.errors import NoHidden, NoText, Ring
from causebook.texts import read, shown
from helper import (assert_own, assert_refused, assert_ring, hidden_shape, random_book, random_shape, source_of,
                    worlds_of)

GARDEN = "rain 2 : 4 1\npump 2 rain : 6 4 / 99 1\nwet 2 rain pump : 1 0 / 1 9 / 2 8 / 1 99"
GARDEN_BOOK = ([2, 2, 2], [[], [0], [0, 1]], [[[4, 1]], [[6, 4], [99, 1]], [[1, 0], [1, 9], [2, 8], [1, 99]]])
BOW = "x 2 u : 1 2 / 2 1\ny 2 u x : 1 2 / 3 4 / 5 6 / 7 8\nu* 2 : 1 1"


def names_for(source, number):
    letters = "abcdefghijklmnopqrstuvwxyz"
    names = []
    while len(names) < number:
        name = "".join(source.choice(letters) for sign in range(source.choice((1, 2, 8))))
        if name not in names:
            names.append(name)
    return names


class Read(unittest.TestCase):
    def test_no_thing(self):
        self.assertEqual(assert_own(self, read, ""), ([], ([], [], []), []))

    def test_one(self):
        self.assertEqual(assert_own(self, read, "a 2 : 1 0"), (["a"], ([2], [[]], [[[1, 0]]]), []))
        self.assertEqual(assert_own(self, read, "abcdefgh 4 : 0 0 10 7"),
                         (["abcdefgh"], ([4], [[]], [[[0, 0, 10, 7]]]), []))
        self.assertEqual(assert_own(self, read, "zz 3 : 1 2 3"), (["zz"], ([3], [[]], [[[1, 2, 3]]]), []))

    def test_several(self):
        self.assertEqual(assert_own(self, read, GARDEN), (["rain", "pump", "wet"], GARDEN_BOOK, []))

    def test_causes_on_later_lines(self):
        told = assert_own(self, read, "wet 2 rain : 9 1 / 1 8\nrain 2 : 3 1")
        self.assertEqual(told, (["wet", "rain"], ([2, 2], [[1], []], [[[9, 1], [1, 8]], [[3, 1]]]), []))

    def test_rows_by_the_causes_as_the_line_lists_them(self):
        # By b, then a: the rows of b = 0 come first.
        told = assert_own(self, read, "a 2 : 1 1\nb 3 : 1 1 1\nc 2 b a : 1 1 / 1 2 / 1 3 / 1 4 / 1 5 / 1 6")
        self.assertEqual(told[1][1], [[], [], [0, 1]])
        self.assertEqual(told[1][2][2], [[1, 1], [1, 3], [1, 5], [1, 2], [1, 4], [1, 6]])

    def test_three_causes_in_every_order(self):
        sizes = {"a": 2, "b": 3, "c": 4}
        weights = {world: 1 + place for place, world in enumerate(itertools.product(range(2), range(3), range(4)))}
        told = []
        for listed in itertools.permutations("abc"):
            rows = []
            for values in worlds_of([sizes[name] for name in listed]):
                at = dict(zip(listed, values))
                weight = weights[(at["a"], at["b"], at["c"])]
                rows.append(f"{weight} 1")
            lines = [f"d 2 {' '.join(listed)} : {' / '.join(rows)}"]
            lines += [f"{name} {sizes[name]} : {' '.join(['1'] * sizes[name])}" for name in "abc"]
            told.append(read("\n".join(lines)))
        self.assertEqual(told[0][1][2][0], [[1 + place, 1] for place in range(24)])
        for other in told[1:]:
            self.assertEqual(other, told[0])

    def test_hidden_things(self):
        told = assert_own(self, read, BOW)
        self.assertEqual(told, (["x", "y", "u"],
                                ([2, 2, 2], [[2], [0, 2], []],
                                 [[[1, 2], [2, 1]], [[1, 2], [5, 6], [3, 4], [7, 8]], [[1, 1]]]), [2]))
        self.assertEqual(read("u* 2 : 1 1\nv* 3 : 1 1 1\na 2 u v : 1 1" + " / 1 1" * 5
                              + "\nb 2 u v : 1 1" + " / 1 1" * 5)[2], [0, 1])

    def test_sixty_figures(self):
        great = "9" * 60
        self.assertEqual(read(f"a 2 : {great} 0")[1][2], [[[10 ** 60 - 1, 0]]])
        self.assertEqual(read(f"a 2 : 0 1{'0' * 59}")[1][2], [[[0, 10 ** 59]]])

    def test_twelve_things_and_five_causes(self):
        names = "abcdefghijkl"
        text = "\n".join(f"{name} 2 : 1 1" for name in names)
        self.assertEqual(len(read(text)[0]), 12)
        wide = "\n".join(f"{name} 2 : 1 1" for name in "abcde") + "\nf 2 e d c b a : " + " / ".join(["1 1"] * 32)
        self.assertEqual(read(wide)[1][1][5], [0, 1, 2, 3, 4])


class Shown(unittest.TestCase):
    def test_by_hand(self):
        self.assertEqual(assert_own(self, shown, [], ([], [], []), []), "")
        self.assertEqual(assert_own(self, shown, ["rain", "pump", "wet"], GARDEN_BOOK, []), GARDEN)
        self.assertEqual(assert_own(self, shown, ["a"], ([3], [[]], [[[0, 1, 10 ** 59]]]), []), f"a 3 : 0 1 {10 ** 59}")

    def test_hidden_things_and_causes_rising(self):
        names, made, hidden = read(BOW)
        self.assertEqual(assert_own(self, shown, names, made, hidden),
                         "x 2 u : 1 2 / 2 1\ny 2 x u : 1 2 / 5 6 / 3 4 / 7 8\nu* 2 : 1 1")

    def test_read_again_it_is_the_same(self):
        for text in ("", "a 2 : 1 0", GARDEN, BOW):
            told = read(text)
            self.assertEqual(read(shown(*told)), told)
            self.assertEqual(shown(*read(shown(*told))), shown(*told))

    def test_by_chance(self):
        source = source_of(140)
        for turn in range(80):
            if turn % 2:
                causes, hidden = hidden_shape(source, source.choice((2, 4, 6)), source.choice((1, 3)))
            else:
                causes, hidden = random_shape(source, source.choice((1, 3, 6, 12)), thick=0.6), []
            made = random_book(source, causes, greatest=source.choice((1, 9, 10 ** 60 - 1)), noughts=0.3)
            names = names_for(source, len(causes))
            text = assert_own(self, shown, names, made, hidden)
            self.assertEqual(assert_own(self, read, text), (names, made, hidden))
            self.assertEqual(book(*read(text)[1]), made)


class NoTexts(unittest.TestCase):
    def wrong(self, *texts):
        for text in texts:
            with self.subTest(text=text):
                assert_refused(self, NoText, read, text)

    def test_another_kind(self):
        self.wrong(None, True, 0, 7, 1.5, [], ["a 2 : 1 1"], (), {}, b"a 2 : 1 1", b"", object(), str)

    def test_no_line_or_words_missing(self):
        self.wrong(" ", "a", "a 2", "a 2 :", "a : 1 1", "2 : 1 1", ": 1 1", ":", "a 2 1 1", "a 2 : ", "a b 2 : 1 1",
                   "a2: 1 1", "a 2: 1 1", "a 2 :1 1")

    def test_blanks(self):
        self.wrong(" a 2 : 1 1", "a 2 : 1 1 ", "a  2 : 1 1", "a 2  : 1 1", "a 2 :  1 1", "a 2 : 1  1",
                   "b 2 : 1 1\na 2 b : 1 1  / 1 1", "b 2 : 1 1\na 2 b : 1 1 /  1 1", "b 2 : 1 1\na 2  b : 1 1 / 1 1",
                   "b 2 : 1 1\na 2 b  : 1 1 / 1 1", "b 2 : 1 1 \na 2 : 1 1", "b 2 : 1 1\n a 2 : 1 1",
                   "a\t2 : 1 1", "a 2 : 1\t1", "a\u00a02 : 1 1", "a 2 : 1 1\t")

    def test_line_ends(self):
        self.wrong("\n", "a 2 : 1 1\n", "\na 2 : 1 1", "a 2 : 1 1\n\nb 2 : 1 1", "a 2 : 1 1\r\nb 2 : 1 1", "a 2 : 1 1\r",
                   "a 2 : 1 1\rb 2 : 1 1", "a 2 : 1 1\x0bb 2 : 1 1", "a 2 : 1 1\u2028b 2 : 1 1", GARDEN + "\n")

    def test_names(self):
        self.wrong("A 2 : 1 1", "a1 2 : 1 1", "1 2 : 1 1", "abcdefghi 2 : 1 1", "a_ 2 : 1 1", "\u00e4 2 : 1 1",
                   "\u0430 2 : 1 1", "a- 2 : 1 1", "* 2 : 1 1", "a** 2 : 1 1", "*a 2 : 1 1", "a * 2 : 1 1", ": 2 : 1 1",
                   "/ 2 : 1 1", "abcdefghi* 2 : 1 1")

    def test_a_name_twice(self):
        self.wrong("a 2 : 1 1\na 2 : 1 1", "a 2 : 1 1\nb 2 : 1 1\na 3 : 1 1 1",
                   "a* 2 : 1 1\na 2 : 1 1", "a* 2 : 1 1\nb 2 a : 1 1 / 1 1\nc 2 a : 1 1 / 1 1\na 2 : 1 1")

    def test_sizes(self):
        self.wrong("a 1 : 1", "a 5 : 1 1 1 1 1", "a 0 :", "a -2 : 1 1", "a 02 : 1 1", "a +2 : 1 1", "a two : 1 1",
                   "a 2.0 : 1 1", "a \u0662 : 1 1", "a 22 : 1 1", "a 9 : 1 1 1 1 1 1 1 1 1", "a ** : 1 1", "a : : 1 1")

    def test_causes(self):
        self.wrong("a 2 b : 1 1 / 1 1", "b 2 : 1 1\na 2 b b : 1 1 / 1 1 / 1 1 / 1 1",
                   "b 2 : 1 1\na 2 B : 1 1 / 1 1", "b 2 : 1 1\na 2 0 : 1 1 / 1 1",
                   "u* 2 : 1 1\na 2 u* : 1 1 / 1 1\nb 2 u : 1 1 / 1 1", "b 2 : 1 1\na 2 b / : 1 1 / 1 1",
                   "b 2 : 1 1\na b 2 : 1 1 / 1 1")

    def test_weights(self):
        for weight in ("", "-1", "+1", "01", "00", "1.0", "1/2", "one", "1_0", "\u0661", "0x1", "1e3", "\u00b2", "None",
                       "9" * 61, "0" * 60, "1" + "0" * 60, "1" * 5000):
            self.wrong(f"a 2 : {weight} 1", f"a 2 : 1 {weight}")

    def test_rows(self):
        self.wrong("a 2 : 1", "a 2 : 1 1 1", "a 3 : 1 1", "a 2 : 1 1 / 1 1", "a 2 : / 1 1", "a 2 : 1 1 /", "a 2 : /",
                   "a 2 : 1 / 1", "a 2 : 1 1 : 1 1")
        for rows in ("1 1", "1 1 / 1 1 / 1 1", "1 1 / 1", "1 1 1 / 1 1", "1 1 1 1", "1 1 / / 1 1", "/ 1 1", "1 1 /",
                     "1 1 // 1 1", "1 1/1 1", "1 1 / 1 1 /"):
            self.wrong(f"b 2 : 1 1\na 2 b : {rows}")

    def test_rows_of_noughts(self):
        self.wrong("a 2 : 0 0", "a 4 : 0 0 0 0", "b 2 : 1 1\na 2 b : 1 1 / 0 0")

    def test_too_many(self):
        names = "abcdefghijklmnopqrstuvwxyz"
        self.wrong("\n".join(f"{name} 2 : 1 1" for name in names[:13]), "\n".join(f"{name} 2 : 1 1" for name in names))
        causes = " ".join("abcdef")
        rows = " / ".join(["1 1"] * 64)
        self.wrong("\n".join(f"{name} 2 : 1 1" for name in "abcdef") + f"\ng 2 {causes} : {rows}")

    def test_many_causes_and_few_rows(self):
        names = ["".join(pair) for pair in itertools.product("abcdefgh", repeat=2)]
        lines = [f"{name} 4 : 1 1 1 1" for name in names] + [f"z 2 {' '.join(names)} : 1 1 / 1 1"]
        self.wrong("\n".join(lines))


class TheOrderOfRefusals(unittest.TestCase):
    def test_a_ring(self):
        ring = assert_refused(self, Ring, read, "a 2 a : 1 1 / 1 1").ring
        self.assertEqual(ring, [0])
        ring = assert_refused(self, Ring, read, "a 2 c : 1 1 / 1 1\nb 2 a : 1 1 / 1 1\nc 2 b : 1 1 / 1 1\nd 2 : 1 1").ring
        assert_ring(self, [[2], [0], [1], []], ring)
        self.assertEqual(ring, [0, 1, 2])

    def test_hidden_ones_that_are_none(self):
        for text in (
            "u* 2 : 1 1",
            "u* 2 : 1 1\na 2 u : 1 1 / 1 1",
            "u* 2 : 1 1\na 2 u : 1 1 / 1 1\nb 2 u : 1 1 / 1 1\nc 2 u : 1 1 / 1 1",
            "v 2 : 1 1\nu* 2 v : 1 1 / 1 1\na 2 u : 1 1 / 1 1\nb 2 u : 1 1 / 1 1",
            "u* 2 : 1 1\na* 2 u : 1 1 / 1 1\nb 2 u : 1 1 / 1 1",
            BOW + "\nw* 2 : 1 1",
        ):
            with self.subTest(text=text):
                assert_refused(self, NoHidden, read, text)

    def test_no_text_before_a_ring(self):
        assert_refused(self, NoText, read, "a 2 a : 1 1")
        assert_refused(self, NoText, read, "a 2 a : 1 1 / 0 0")
        assert_refused(self, NoText, read, "a 2 a : 1 1 / 1 1\nb 2 : 01 1")
        assert_refused(self, NoText, read, "b 2 : 1\na 2 a : 1 1 / 1 1")
        assert_refused(self, NoText, read, "a 2 a : 1 1 / 1 1\na 2 : 1 1")
        assert_refused(self, NoText, read, "a 2 a : 1 1 / 1 1\n")
        assert_refused(self, NoText, read, "a 2 a a : 1 1 / 1 1 / 1 1 / 1 1")

    def test_no_text_before_no_hidden(self):
        assert_refused(self, NoText, read, "u* 2 : 1 1\na 2 : 1")
        assert_refused(self, NoText, read, "a 2 : 1 1 1\nu* 2 : 1 1")

    def test_a_ring_before_no_hidden(self):
        assert_refused(self, Ring, read, "u* 2 : 1 1\na 2 a : 1 1 / 1 1")
        assert_refused(self, Ring, read, "u* 2 u : 1 1 / 1 1")


if __name__ == "__main__":
    unittest.main()
