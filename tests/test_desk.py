"""The desk: points [38] and [39], its rows in the interface, and what [3] and [2] say over the whole."""

import itertools
import unittest
from fractions import Fraction

from causebook.adjust import does, least_set, set_among
from causebook.desk import Desk
from causebook.errors import (BookError, NoGround, NoHidden, NoName, NoQuestion, NoRow, NoText, NoValue, Ring,
                              TooGreat)
from causebook.recipes import recipe
from causebook.texts import read, shown
from helper import (assert_refused, best_road, fits, hidden_shape, random_book, random_shape, set_by_hand, source_of,
                    sum_over, view_with, whole_of)

GARDEN = "rain 2 : 4 1\npump 2 rain : 6 4 / 99 1\nwet 2 rain pump : 1 0 / 1 9 / 2 8 / 1 99"
# The same without a nought.
DAMP = GARDEN.replace("1 0 /", "1 1 /")
# x -> m -> y, u above x and y.
FRONT = "x 2 u : 3 1 / 1 3\nm 3 x : 1 2 3 / 3 2 1\ny 2 m u : 1 2 / 2 1 / 1 3 / 3 1 / 1 4 / 4 1\nu* 2 : 1 2"
# x -> y, u above both.
BOW = "x 2 u : 1 2 / 2 1\ny 2 x u : 1 2 / 2 1 / 1 3 / 3 1\nu* 2 : 1 1"
SURE = "a 2 : 1 1\nb 2 a : 1 0 / 0 1\nc 3 b : 1 1 0 / 0 0 1"


def answers(text, *rows):
    desk = Desk(text)
    return [desk.say(row) for row in rows]


def as_text(value):
    return str(value.numerator) if value.denominator == 1 else f"{value.numerator}/{value.denominator}"


class Checks(unittest.TestCase):
    def answered(self, text, rows, wanted):
        self.assertEqual(answers(text, *rows)[-1], wanted)

    def refused(self, text, rows, error):
        """The last row is refused, whatever is asked behind it is answered as before."""
        desk = Desk(text)
        for row in rows[:-1]:
            desk.say(row)
        before = [whatever(desk, row) for row in QUESTIONS]
        assert_refused(self, error, desk.say, rows[-1])
        self.assertEqual([whatever(desk, row) for row in QUESTIONS], before)


QUESTIONS = ["book", "likeliest", "chance rain 0", "chance wet 1", "chance pump 1", "chance a 0", "chance b 1", "chance c 1",
             "chance x 0", "chance y 0", "chance m 2", "chance u 0", "tells rain wet", "tells pump rain", "tells x y",
             "tells a c", "tells x u", "effect x 0 y 0", "effect rain 1 wet 1"]


def whatever(desk, row):
    try:
        return desk.say(row)
    except BookError as error:
        return type(error)


class Made(unittest.TestCase):
    def test_refused_as_texts_are(self):
        for text in (None, 7, ["a 2 : 1 1"], "a 2 : 1", "a 2 : 1 1\n", "A 2 : 1 1", " "):
            assert_refused(self, NoText, Desk, text)
        self.assertEqual(assert_refused(self, Ring, Desk, "a 2 a : 1 1 / 1 1").ring, [0])
        assert_refused(self, NoHidden, Desk, "u* 2 : 1 1")

    def test_just_4096_worlds(self):
        for count, size in ((12, 2), (6, 4)):
            text = "\n".join(f"{name} {size} : {' '.join(['1'] * size)}" for name in "abcdefghijkl"[:count])
            self.assertEqual(answers(text, "chance a 0", "see b 1", "likeliest"),
                             [f"1/{size}", "ok", " ".join(f"{name}={int(name == 'b')}" for name in "abcdefghijkl"[:count])])

    def test_more(self):
        text = "\n".join(f"{name} 4 : 1 1 1 1" for name in "abcdef")
        assert_refused(self, TooGreat, Desk, text + "\ng 2 : 1 1")
        assert_refused(self, TooGreat, Desk, "\n".join(f"{name} 2 : 1 1" for name in "abcdefghijk") + "\nl 3 : 1 1 1")
        assert_refused(self, TooGreat, Desk, "\n".join(f"{name} 4 : 1 1 1 1" for name in "abcdefghijkl"))

    def test_hidden_things_count_among_the_worlds(self):
        seen = "\n".join(f"{name} 2 : 1 1" for name in "abcdefghi")
        for size in (2, 3):
            rows = " / ".join(["1 1"] * size)
            weights = " ".join(["1"] * size)
            text = f"{seen}\nx 2 u : {rows}\ny 2 u : {rows}\nu* {size} : {weights}"
            if size == 2:
                self.assertEqual(answers(text, "chance u 0"), ["1/2"])
            else:
                assert_refused(self, TooGreat, Desk, text)

    def test_behind_the_other_refusals(self):
        great = "\n".join(f"{name} 4 : 1 1 1 1" for name in "abcdefg")
        assert_refused(self, TooGreat, Desk, great)
        assert_refused(self, NoText, Desk, great + "\nh 2 : 1")
        assert_refused(self, Ring, Desk, great + "\nh 2 h : 1 1 / 1 1")
        assert_refused(self, NoHidden, Desk, great + "\nh* 2 : 1 1")

    def test_no_things(self):
        self.assertEqual(answers("", "likeliest", "book"), ["", ""])
        assert_refused(self, NoName, Desk("").say, "chance a 0")


class SeeSetForget(Checks):
    def test_ok(self):
        self.assertEqual(answers(GARDEN, "see rain 1", "set pump 0", "forget rain", "forget wet", "forget pump"), ["ok"] * 5)

    def test_seen_and_set_are_unlike(self):
        # The pump seen tells of the rain; the pump set does not.
        self.answered(GARDEN, ["chance rain 1"], "1/5")
        self.answered(GARDEN, ["see pump 1", "chance rain 1"], "1/161")
        self.answered(GARDEN, ["set pump 1", "chance rain 1"], "1/5")

    def test_what_was_told_last_counts(self):
        self.answered(GARDEN, ["see pump 1", "set pump 1", "chance rain 1"], "1/5")
        self.answered(GARDEN, ["set pump 1", "see pump 1", "chance rain 1"], "1/161")
        self.answered(GARDEN, ["see rain 0", "see rain 1", "chance rain 1"], "1")
        self.answered(GARDEN, ["set rain 1", "set rain 0", "chance rain 1"], "0")

    def test_forgotten(self):
        self.answered(GARDEN, ["see pump 1", "forget pump", "chance rain 1"], "1/5")
        self.answered(GARDEN, ["set pump 1", "forget pump", "chance pump 1"], "161/500")
        self.answered(GARDEN, ["set pump 1", "see wet 1", "forget pump", "chance pump 1"], "1611/2491")
        self.answered(GARDEN, ["forget pump", "chance rain 1"], "1/5")

    def test_hidden_things(self):
        for row in ("see u 0", "set u 1", "forget u"):
            self.refused(FRONT, [row], NoName)

    def test_what_cannot_be_is_seen_all_the_same(self):
        desk = Desk(SURE)
        self.assertEqual([desk.say("see a 0"), desk.say("see b 1")], ["ok", "ok"])
        assert_refused(self, NoGround, desk.say, "chance c 0")
        self.assertEqual(desk.say("set b 1"), "ok")
        self.assertEqual(desk.say("chance c 2"), "1")


class Chance(Checks):
    def test_by_hand(self):
        self.answered(GARDEN, ["chance wet 1"], "22419/50000")
        self.answered(GARDEN, ["see wet 1", "chance rain 1"], "891/2491")
        self.answered(GARDEN, ["see wet 1", "chance wet 1"], "1")
        self.answered(GARDEN, ["see wet 1", "chance wet 0"], "0")
        self.answered(GARDEN, ["set pump 1", "chance wet 1"], "459/500")

    def test_hidden_things_are_asked(self):
        self.answered(FRONT, ["chance u 1"], "2/3")
        self.answered(FRONT, ["see x 0", "chance u 1"], "2/5")

    def test_no_ground(self):
        self.refused(SURE, ["see a 0", "see b 1", "chance c 0"], NoGround)
        self.refused(SURE, ["see a 0", "see b 1", "chance a 0"], NoGround)
        self.refused(SURE, ["see a 0", "see b 1", "chance a 1"], NoGround)
        self.refused(SURE, ["set a 0", "see c 2", "chance a 1"], NoGround)

    def test_against_sums(self):
        source = source_of(150)
        for turn in range(40):
            if turn % 2:
                causes, hidden = hidden_shape(source, 3, 1)
            else:
                causes, hidden = random_shape(source, 4, thick=0.6), []
            book = random_book(source, causes, noughts=source.choice((0.0, 0.3)))
            names = list("pqrs")
            desk = Desk(shown(names, book, hidden))
            changed, known = book, {}
            for k in [k for k in range(4) if k not in hidden]:
                a = source.randrange(book[0][k])
                word = source.choice(("see", "set", ""))
                if word:
                    desk.say(f"{word} {names[k]} {a}")
                    known[k] = a
                if word == "set":
                    changed = set_by_hand(changed, k, a)
            whole = whole_of(changed)
            ground = sum_over(whole, view_with(4, known))
            view = view_with(4, known)
            for k in range(4):
                for a in range(book[0][k]):
                    row = f"chance {names[k]} {a}"
                    if ground == 0:
                        assert_refused(self, NoGround, desk.say, row)
                    else:
                        here = sum((p for world, p in whole.items() if world[k] == a and fits(world, view)), Fraction(0))
                        self.assertEqual(desk.say(row), as_text(here / ground))
            if ground == 0:
                assert_refused(self, NoGround, desk.say, "likeliest")
                continue
            best = max(p for world, p in whole.items() if fits(world, view))
            first = min(world for world, p in whole.items() if p == best and fits(world, view))
            self.assertEqual(desk.say("likeliest"), " ".join(f"{name}={a}" for name, a in zip(names, first)))


class Likeliest(Checks):
    def test_by_hand(self):
        self.answered(GARDEN, ["likeliest"], "rain=0 pump=0 wet=0")
        self.answered(GARDEN, ["see wet 1", "likeliest"], "rain=0 pump=1 wet=1")
        self.answered(GARDEN, ["set rain 1", "likeliest"], "rain=1 pump=0 wet=1")
        self.answered(BOW, ["likeliest"], "x=1 y=1 u=0")

    def test_no_ground(self):
        self.refused(SURE, ["see a 0", "see b 1", "likeliest"], NoGround)
        self.refused(SURE, ["set a 0", "see c 2", "likeliest"], NoGround)


class Tells(Checks):
    def test_by_hand(self):
        self.answered(GARDEN, ["tells rain wet"], "road rain wet")
        self.answered(GARDEN, ["tells wet pump"], "road wet pump")
        self.answered(SURE, ["tells a c"], "road a b c")
        self.answered(SURE, ["tells c a"], "road c b a")
        self.answered(SURE, ["see b 1", "tells a c"], "nothing")
        self.answered(SURE, ["set b 1", "tells a c"], "nothing")
        self.answered("a 2 : 1 1\nb 2 : 1 1\nc 2 a b : 1 1 / 1 1 / 1 1 / 1 1", ["tells a b"], "nothing")
        self.answered("a 2 : 1 1\nb 2 : 1 1\nc 2 a b : 1 1 / 1 1 / 1 1 / 1 1", ["see c 0", "tells a b"], "road a c b")

    def test_set_things_have_no_causes(self):
        text = "a 2 : 1 1\nb 2 : 1 1\nc 2 a b : 1 1 / 1 1 / 1 1 / 1 1"
        self.answered(text, ["set c 0", "tells a b"], "nothing")
        self.answered(text, ["set c 0", "see c 0", "tells a b"], "road a c b")
        self.answered(text, ["see c 0", "forget c", "tells a b"], "nothing")

    def test_by_things_known_that_cannot_be(self):
        self.answered(SURE + "\nd 2 : 1 1", ["see a 0", "see b 1", "tells c d"], "nothing")

    def test_hidden_things_are_asked_and_stand_on_roads(self):
        self.answered(FRONT, ["tells u m"], "road u x m")
        self.answered(FRONT, ["see m 0", "tells x y"], "road x u y")
        self.answered(FRONT, ["set m 0", "tells u x"], "road u x")

    def test_no_question(self):
        self.refused(GARDEN, ["tells rain rain"], NoQuestion)
        self.refused(FRONT, ["tells u u"], NoQuestion)
        for word in ("see", "set"):
            self.refused(GARDEN, [f"{word} rain 0", "tells rain wet"], NoQuestion)
            self.refused(GARDEN, [f"{word} rain 0", "tells wet rain"], NoQuestion)
            self.refused(GARDEN, [f"{word} rain 0", "tells rain rain"], NoQuestion)

    def test_against_all_roads(self):
        source = source_of(151)
        for turn in range(60):
            causes = random_shape(source, 5, thick=0.5)
            names = list("pqrst")
            desk = Desk(shown(names, random_book(source, causes, [2] * 5), []))
            things = source.sample(range(5), 5)
            known, cut = things[2:2 + source.randint(0, 3)], [list(own) for own in causes]
            for k in known:
                word = source.choice(("see", "set"))
                desk.say(f"{word} {names[k]} 0")
                if word == "set":
                    cut[k] = []
            road = best_road(cut, things[0], things[1], known)
            wanted = "nothing" if road is None else " ".join(["road"] + [names[k] for k in road])
            self.assertEqual(desk.say(f"tells {names[things[0]]} {names[things[1]]}"), wanted)


class DoesAndFor(Checks):
    def test_by_hand(self):
        self.answered(GARDEN, ["does pump wet"], "no")
        self.answered(GARDEN, ["does pump wet rain"], "yes")
        self.answered(GARDEN, ["does rain wet"], "yes")
        self.answered(GARDEN, ["does rain wet pump"], "no")
        self.answered(GARDEN, ["for pump wet"], "by rain")
        self.answered(GARDEN, ["for rain wet"], "by")
        self.answered(GARDEN, ["for wet rain"], "none")
        self.answered(FRONT, ["for x y"], "none")
        self.answered(FRONT, ["for m y"], "by x")
        self.answered(BOW, ["does x y"], "no")

    def test_several_names_rising_by_number(self):
        text = "b 2 : 1 1\na 2 : 1 1\nx 2 a b : 1 1 / 1 1 / 1 1 / 1 1\ny 2 a b x : " + " / ".join(["1 1"] * 8)
        self.answered(text, ["for x y"], "by b a")
        self.answered(text, ["does x y a b"], "yes")
        self.answered(text, ["does x y b a"], "yes")
        self.answered(text, ["does x y a"], "no")

    def test_what_is_seen_or_set_counts_for_nothing(self):
        for row in ("does pump wet rain", "does pump wet", "for pump wet", "effect pump 1 wet 1", "effect rain 0 wet 1"):
            plain = answers(DAMP, row)[-1]
            for word, name in itertools.product(("see", "set"), ("rain", "pump", "wet")):
                self.answered(DAMP, [f"{word} {name} 0", row], plain)

    def test_no_question(self):
        for row in ("does rain rain", "does rain wet rain", "does rain wet wet", "does rain wet pump pump",
                    "for wet wet"):
            self.refused(GARDEN, [row], NoQuestion)

    def test_no_name(self):
        for row in ("does x u", "does u y", "does x y u", "does x y m u", "for x u", "for u x", "for u u", "does u u"):
            self.refused(FRONT, [row], NoName)

    def test_against_the_functions(self):
        source = source_of(152)
        for turn in range(60):
            causes, hidden = hidden_shape(source, 4, source.choice((0, 1, 2)), 0.7)
            names = list("pqrstuvw")[:len(causes)]
            desk = Desk(shown(names, random_book(source, causes, [2] * len(causes)), hidden))
            seen = [k for k in range(len(causes)) if k not in hidden]
            things = source.sample(seen, 4)
            x, y, some = things[0], things[1], things[2:2 + source.randint(0, 2)]
            row = " ".join(["does"] + [names[k] for k in [x, y] + some])
            self.assertEqual(desk.say(row), "yes" if does(causes, x, y, some) else "no")
            found = set_among(causes, x, y, seen)
            wanted = "none"
            if found is not None:
                wanted = " ".join(["by"] + [names[k] for k in least_set(causes, x, y, found)])
            self.assertEqual(desk.say(f"for {names[x]} {names[y]}"), wanted)


class Effect(Checks):
    def test_by_hand(self):
        self.answered(DAMP, ["effect pump 1 wet 1"], "459/500")
        self.answered("a 2 : 1 1\nb 2 a : 1 2 / 2 1", ["effect a 0 b 0"], "1/3")
        self.answered("a 2 : 1 1\nb 2 a : 1 2 / 2 1", ["effect b 0 a 0"], "1/2")
        self.answered("a 2 : 1 1\nb 2 a : 1 1 / 1 1\nc 2 : 3 1", ["effect a 0 c 0"], "3/4")

    def test_untold(self):
        self.answered(BOW, ["effect x 0 y 0"], "untold")
        # No recipe comes before no ground.
        self.answered(BOW.replace("1 2 / 2 1\ny", "1 0 / 1 0\ny"), ["effect x 0 y 0"], "untold")

    def test_no_ground(self):
        self.refused(SURE, ["effect a 0 b 0"], NoGround)
        self.refused(GARDEN, ["effect pump 1 wet 1"], NoGround)
        self.refused(SURE, ["effect c 0 a 0"], NoGround)

    def test_no_question_comes_before_no_ground(self):
        self.refused(SURE, ["effect a 0 a 0"], NoQuestion)
        self.refused(SURE, ["effect a 0 a 1"], NoQuestion)
        self.refused(BOW, ["effect y 1 y 1"], NoQuestion)

    def test_hidden_things(self):
        for row in ("effect u 0 y 0", "effect x 0 u 0", "effect u 0 u 0"):
            self.refused(FRONT, [row], NoName)

    def test_by_setting(self):
        source = source_of(153)
        seen = [0, 0]
        for turn in range(60):
            causes, hidden = hidden_shape(source, source.choice((3, 4)), source.choice((0, 1, 2)), 0.7)
            book = random_book(source, causes)
            names = list("pqrstuvw")[:len(causes)]
            desk = Desk(shown(names, book, hidden))
            x, y = source.sample([k for k in range(len(causes)) if k not in hidden], 2)
            a, b = source.randrange(book[0][x]), source.randrange(book[0][y])
            told = desk.say(f"effect {names[x]} {a} {names[y]} {b}")
            is_told = recipe(causes, hidden, x, y) is not None
            seen[is_told] += 1
            wanted = "untold"
            if is_told:
                wanted = as_text(sum_over(whole_of(set_by_hand(book, x, a)), view_with(len(causes), {y: b})))
            self.assertEqual(told, wanted)
        self.assertGreater(min(seen), 5)


class TheBook(Checks):
    def test_as_shown(self):
        self.answered(GARDEN, ["book"], GARDEN)
        self.answered(FRONT, ["book"], FRONT)
        for text in (GARDEN, FRONT, BOW, SURE, ""):
            self.answered(text, ["book"], shown(*read(text)))
        self.answered("b 2 c a : 1 1 / 1 2 / 1 3 / 1 4\na 2 : 1 1\nc 2 : 1 1", ["book"],
                      "b 2 a c : 1 1 / 1 3 / 1 2 / 1 4\na 2 : 1 1\nc 2 : 1 1")

    def test_as_it_was_whatever_was_set(self):
        self.answered(GARDEN, ["set pump 1", "see wet 0", "book"], GARDEN)


class Refusals(Checks):
    def test_no_row(self):
        for row in (None, 7, True, 1.5, [], ["see", "rain", "1"], ("book",), {}, b"book", object(),
                    "", " ", "sea rain 1", "See rain 1", "BOOK", "books", "see", "see rain", "see rain 1 1", "set", "set rain",
                    "set rain 1 1", "forget", "forget rain 1", "chance", "chance rain", "chance rain 1 1", "likeliest rain",
                    "likeliest ", " likeliest", "tells", "tells rain", "tells rain wet pump", "does", "does rain", "for",
                    "for rain", "for rain wet pump", "effect", "effect rain 1 wet", "effect rain 1 wet 1 1", "book ",
                    "book rain", " book", "book\n", "\nbook", "rain", "see rain 1 ", "see  rain 1", "does ", "tells rain  wet",
                    "likeliest\t", "see\train\t1", "for rain wet "):
            self.refused(GARDEN, [row], NoRow)

    def test_no_name(self):
        for row in ("see snow 1", "see Rain 1", "see  1", "set snow 0", "forget snow", "forget ", "forget rain*",
                    "chance snow 0", "chance  0", "tells rain snow", "tells snow rain", "tells snow snow", "tells  ", "tells rain ",
                    "does rain snow", "does snow rain", "does rain wet snow", "does rain wet ", "does rain wet  pump",
                    "does  ", "for rain snow", "for snow rain", "for  rain", "for  ", "effect snow 0 wet 0",
                    "effect rain 0 snow 0", "effect rain 0  0", "see 1 rain", "see rain\n 1", "forget rain\n"):
            self.refused(GARDEN, [row], NoName)
        for row in ("chance u* 0", "tells u* x", "see u* 0", "does x y u*"):
            self.refused(FRONT, [row], NoName)

    def test_no_value(self):
        for row in ("see rain 2", "see rain -1", "see rain ", "see rain 01", "see rain one", "see rain 1.0", "see rain +1",
                    "see rain \u0661", "see rain None", "set rain 2", "set rain 9", "set rain 10", "chance rain 2", "chance rain ",
                    "chance rain rain", "effect rain 2 wet 0", "effect rain 0 wet 2", "effect rain 7 wet 7", "effect rain  wet 0",
                    "see rain 1\n", "see rain 00"):
            self.refused(GARDEN, [row], NoValue)
        self.refused(FRONT, ["see m 3"], NoValue)
        self.answered(FRONT, ["see m 2"], "ok")
        self.refused(FRONT, ["chance u 2"], NoValue)

    def test_no_row_before_no_name(self):
        for row in ("see snow", "see snow 1 1", "tells snow", "effect snow 0 snow", "for snow rain wet", "does snow"):
            self.refused(GARDEN, [row], NoRow)

    def test_no_name_before_no_value(self):
        for row in ("see snow 9", "set snow 9", "chance snow 9", "effect rain 9 snow 0", "effect snow 9 rain 9",
                    "effect snow 0 rain 9"):
            self.refused(GARDEN, [row], NoName)
        for row in ("see u 9", "set u 9", "effect u 9 y 0", "effect x 9 u 0"):
            self.refused(FRONT, [row], NoName)

    def test_no_value_before_no_question(self):
        self.refused(GARDEN, ["effect rain 9 rain 0"], NoValue)
        self.refused(GARDEN, ["effect rain 0 rain 9"], NoValue)

    def test_no_name_before_no_question(self):
        for row in ("tells snow snow", "does rain rain snow", "for snow snow", "effect snow 0 snow 0"):
            self.refused(GARDEN, [row], NoName)
        self.refused(GARDEN, ["see rain 0", "tells rain snow"], NoName)

    def test_no_value_before_no_ground(self):
        self.refused(SURE, ["see a 0", "see b 1", "chance c 3"], NoValue)
        self.refused(SURE, ["effect a 0 b 2"], NoValue)

    def test_what_is_refused_changes_nothing(self):
        for rows in (["see rain 1", "see rain 2"], ["see rain 1", "set rain 2"], ["set pump 1", "forget pump 1"],
                     ["set pump 1", "see pump 5"], ["see wet 1", "forget wett"], ["see wet 1", "set  1"]):
            desk, other = Desk(GARDEN), Desk(GARDEN)
            desk.say(rows[0])
            other.say(rows[0])
            with self.assertRaises(BookError):
                desk.say(rows[1])
            for row in QUESTIONS:
                self.assertEqual(whatever(desk, row), whatever(other, row))


class OverTheWhole(Checks):
    def test_whatever_was_asked_before(self):
        source = source_of(154)
        for text in (GARDEN, FRONT, BOW, SURE):
            desk, known = Desk(text), {}
            names, book, hidden = read(text)
            seen = [k for k in range(len(names)) if k not in hidden]
            for turn in range(30):
                k = source.choice(seen)
                word = source.choice(("see", "set", "forget"))
                value = source.randrange(book[0][k])
                if word == "forget":
                    desk.say(f"forget {names[k]}")
                    known.pop(k, None)
                else:
                    desk.say(f"{word} {names[k]} {value}")
                    known[k] = f"{word} {names[k]} {value}"
                for row in source.sample(QUESTIONS, 6) + ["see snow 0", "nothing", "see rain 9"]:
                    whatever(desk, row)
                fresh = Desk(text)
                for row in known.values():
                    fresh.say(row)
                for row in QUESTIONS:
                    self.assertEqual(whatever(desk, row), whatever(fresh, row))

    def test_whatever_order_the_lines_stand_in(self):
        source = source_of(155)
        for turn in range(30):
            causes, hidden = hidden_shape(source, 4, source.choice((0, 1, 2)), 0.6)
            names = list("pqrstu")[:len(causes)]
            book = random_book(source, causes, [2] * len(causes), greatest=99)
            lines = shown(names, book, hidden).split("\n")
            desk, other = Desk("\n".join(lines)), Desk("\n".join(source.sample(lines, len(lines))))
            seen = [name for k, name in enumerate(names) if k not in hidden]
            for name in source.sample(seen, 2):
                row = f"{source.choice(('see', 'set'))} {name} {source.randrange(2)}"
                self.assertEqual((desk.say(row), other.say(row)), ("ok", "ok"))
            for one, two in itertools.permutations(names, 2):
                for row in (f"chance {one} 0", f"does {one} {two}", f"effect {one} 0 {two} 1"):
                    self.assertEqual(whatever(desk, row), whatever(other, row))
                self.check_roads(whatever(desk, f"tells {one} {two}"), whatever(other, f"tells {one} {two}"))
                least, most = whatever(desk, f"for {one} {two}"), whatever(other, f"for {one} {two}")
                self.assertEqual(least in ("none", NoName), most in ("none", NoName))
                for told, asked in ((least, other), (most, desk)):
                    if told not in ("none", NoName):
                        # Which of several least lists is told goes by the numbers; each of them does.
                        self.assertEqual(asked.say(" ".join(["does", one, two] + told.split(" ")[1:])), "yes")
            # Weights up to 99 leave one world the likeliest.
            self.assertEqual(sorted(desk.say("likeliest").split(" ")), sorted(other.say("likeliest").split(" ")))
            self.assertEqual(sorted(line.split(" ")[0] for line in desk.say("book").split("\n")),
                             sorted(line.split(" ")[0] for line in other.say("book").split("\n")))

    def check_roads(self, one, other):
        """Which of several best roads is told goes by the numbers; how long they are does not."""
        if isinstance(one, str) and one.startswith("road"):
            self.assertEqual(len(one.split(" ")), len(other.split(" ")))
        else:
            self.assertEqual(one, other)

    def test_two_desks_are_two(self):
        one, other = Desk(GARDEN), Desk(GARDEN)
        one.say("set pump 1")
        self.assertEqual(one.say("chance pump 1"), "1")
        self.assertEqual(other.say("chance pump 1"), "161/500")

    def test_sixty_figures(self):
        great = "9" * 60
        self.answered(f"a 2 : {great} 1", ["chance a 1"], f"1/1{'0' * 60}")
        self.answered(f"a 2 : {great} 1\nb 2 a : 1 {great} / {great} 1", ["effect a 0 b 0"], f"1/1{'0' * 60}")


if __name__ == "__main__":
    unittest.main()
