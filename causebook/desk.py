"""The desk: asked rows of words about the book of a text, with things seen and set."""

from causebook.adjust import does, least_set, set_among
from causebook.books import set_to
from causebook.clumps import seen_things
from causebook.errors import NoName, NoQuestion, NoRow, NoValue, TooGreat
from causebook.likeliest import likeliest
from causebook.recipes import recipe, seen_sheet, told
from causebook.roads import open_road
from causebook.sheets import filled
from causebook.sums import chance_given
from causebook.texts import read, shown
from causebook.worlds import count_of

MOST_WORLDS = 4096

# What stands behind the first word: the name of any thing, that of a seen one, a value of the thing just named.
ROWS = {
    "see": ("seen", "value"),
    "set": ("seen", "value"),
    "forget": ("seen",),
    "chance": ("thing", "value"),
    "likeliest": (),
    "tells": ("thing", "thing"),
    "does": ("seen", "seen"),
    "for": ("seen", "seen"),
    "effect": ("seen", "value", "seen", "value"),
    "book": (),
}


class Desk:
    def __init__(self, text):
        found = read(text)
        if count_of(found[1][0]) > MOST_WORLDS:
            raise TooGreat("a desk has at most 4,096 worlds")
        self.names = found[0]
        self.book = found[1]
        self.hidden = found[2]
        # For each known thing the word by which it was made known, see or set, and its value.
        self.known = {}

    def say(self, row):
        words = words_of(row)
        kinds = kinds_of(words)
        things = things_of(self, words[1:], kinds)
        return answer(self, words[0], numbers_of(self, words[1:], kinds, things))


def words_of(row):
    if not isinstance(row, str):
        raise NoRow("a row is a text")
    return row.split(" ")


def kinds_of(words):
    kinds = ROWS.get(words[0])
    if kinds is None:
        raise NoRow("no row begins with this word")
    more = len(words) - 1 - len(kinds)
    if more == 0:
        return kinds
    if more > 0 and words[0] == "does":
        return kinds + ("seen",) * more
    raise NoRow("this row has another number of words")


def things_of(desk, words, kinds):
    # For a value the thing that was just named.
    found = []
    for word, kind in zip(words, kinds):
        found.append(found[-1] if kind == "value" else thing_of(desk, word, kind))
    return found


def thing_of(desk, word, kind):
    if word not in desk.names:
        raise NoName("no thing has this name")
    k = desk.names.index(word)
    if kind == "seen" and k in desk.hidden:
        raise NoName("this thing is hidden")
    return k


def numbers_of(desk, words, kinds, things):
    found = []
    for word, kind, k in zip(words, kinds, things):
        found.append(value_of(word, desk.book[0][k]) if kind == "value" else k)
    return found


def value_of(word, size):
    figures = [str(value) for value in range(size)]
    if word not in figures:
        raise NoValue("the thing has no such value")
    return figures.index(word)


def answer(desk, word, numbers):
    if word == "see" or word == "set":
        desk.known[numbers[0]] = (word, numbers[1])
        return "ok"
    if word == "forget":
        desk.known.pop(numbers[0], None)
        return "ok"
    if word == "chance":
        return chance_answer(desk, numbers[0], numbers[1])
    if word == "likeliest":
        return likeliest_answer(desk)
    if word == "book":
        return shown(desk.names, desk.book, desk.hidden)
    return question_answer(desk, word, numbers)


def question_answer(desk, word, numbers):
    if word == "does":
        return does_answer(desk, numbers)
    if word == "effect":
        check_unlike([numbers[0], numbers[2]])
        return effect_answer(desk, numbers)
    check_unlike(numbers)
    if word == "tells":
        return tells_answer(desk, numbers[0], numbers[1])
    return for_answer(desk, numbers[0], numbers[1])


def check_unlike(things):
    if len(set(things)) != len(things):
        raise NoQuestion("a thing stands twice")


def set_things(desk):
    return [k for k in sorted(desk.known) if desk.known[k][0] == "set"]


def set_book(desk):
    found = desk.book
    for k in set_things(desk):
        found = set_to(found, k, desk.known[k][1])
    return found


def known_view(desk):
    found = [None] * len(desk.names)
    for k in sorted(desk.known):
        found[k] = desk.known[k][1]
    return found


def shown_share(part):
    top = part[0]
    bottom = part[1]
    return str(top) if bottom == 1 else f"{top}/{bottom}"


def named(desk, things):
    return [desk.names[k] for k in things]


def chance_answer(desk, k, a):
    asked = filled([None] * len(desk.names), [k], [a])
    return shown_share(chance_given(set_book(desk), asked, known_view(desk)))


def likeliest_answer(desk):
    world = likeliest(set_book(desk), known_view(desk))[0]
    return " ".join([f"{name}={value}" for name, value in zip(desk.names, world)])


def tells_answer(desk, x, y):
    if x in desk.known or y in desk.known:
        raise NoQuestion("what is known is not asked for")
    put = set_things(desk)
    causes = [[] if k in put else own for k, own in enumerate(desk.book[1])]
    road = open_road(causes, x, y, sorted(desk.known))
    return "nothing" if road is None else " ".join(["road"] + named(desk, road))


def does_answer(desk, things):
    check_unlike(things)
    return "yes" if does(desk.book[1], things[0], things[1], things[2:]) else "no"


def for_answer(desk, x, y):
    causes = desk.book[1]
    found = set_among(causes, x, y, seen_things(causes, desk.hidden))
    if found is None:
        return "none"
    return " ".join(["by"] + named(desk, least_set(causes, x, y, found)))


def effect_answer(desk, numbers):
    causes = desk.book[1]
    x = numbers[0]
    y = numbers[2]
    if recipe(causes, desk.hidden, x, y) is None:
        return "untold"
    seen = seen_sheet(desk.book, desk.hidden)
    return shown_share(told(desk.book[0], causes, desk.hidden, x, numbers[1], y, numbers[3], seen))
