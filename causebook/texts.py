"""Texts: books with names and hidden things, read and shown line by line."""

from causebook.books import check_book, picked
from causebook.clumps import is_hidden
from causebook.errors import NoBook, NoHidden, NoText
from causebook.sheets import views_of
from causebook.worlds import count_of, rank

LETTERS = "abcdefghijklmnopqrstuvwxyz"
FIGURES = "0123456789"
SIZE_WORDS = ("2", "3", "4")
LONGEST_NAME = 8
LONGEST_WEIGHT = 60


def read(text):
    heads = []
    listed_rows = []
    for line in lines_of(text):
        words = line.split(" ")
        if ":" not in words:
            raise NoText("a line has the word : behind its causes")
        colon = words.index(":")
        heads.append(checked_head(words[:colon]))
        listed_rows.append(rows_of(words[colon + 1:]))
    names = [head[0].rstrip("*") for head in heads]
    sizes = [int(head[1]) for head in heads]
    listed = [numbers_of(names, head[2:]) for head in heads]
    made = (sizes, [sorted(own) for own in listed], tables_of(sizes, listed, listed_rows))
    check_text(names, made)
    hidden = [k for k, head in enumerate(heads) if head[0].endswith("*")]
    if not is_hidden(made[1], hidden):
        raise NoHidden("a hidden thing has no causes and just two effects")
    return (names, made, hidden)


def lines_of(text):
    if not isinstance(text, str):
        raise NoText("a text is asked for")
    return text.split("\n") if text != "" else []


def checked_head(words):
    if len(words) < 2 or not is_first_word(words[0]) or words[1] not in SIZE_WORDS:
        raise NoText("a line begins with a name and how many values there are")
    return words


def is_first_word(word):
    return is_name(word[:-1]) if word.endswith("*") else is_name(word)


def is_name(word):
    return 1 <= len(word) <= LONGEST_NAME and all([sign in LETTERS for sign in word])


def rows_of(words):
    found = [[]]
    for word in words:
        if word == "/":
            found.append([])
        else:
            found[-1].append(weight_of(word))
    return found


def weight_of(word):
    if not is_weight_word(word):
        raise NoText("a weight is one to sixty figures, with no 0 ahead")
    return int(word)


def is_weight_word(word):
    if not 1 <= len(word) <= LONGEST_WEIGHT or not all([sign in FIGURES for sign in word]):
        return False
    return word == "0" or word[0] != "0"


def numbers_of(names, words):
    if not all([word in names for word in words]):
        raise NoText("a cause is the name of a thing")
    return [names.index(word) for word in words]


def tables_of(sizes, listed, listed_rows):
    return [table_of(sizes, own, rows) for own, rows in zip(listed, listed_rows)]


def table_of(sizes, own, rows):
    # The rows as the line lists the causes, put in the order that the causes have when they rise.
    listed_sizes = picked(sizes, own)
    if len(rows) != count_of(listed_sizes):
        raise NoText("there is a row for each world of the causes")
    found = []
    for view in views_of(sizes, [None] * len(sizes), sorted(own)):
        found.append(rows[rank(listed_sizes, picked(view, own))])
    return found


def check_text(names, made):
    if len(set(names)) != len(names):
        raise NoText("no name is told twice")
    try:
        check_book(made[0], made[1], made[2])
    except NoBook as error:
        raise NoText("what the lines tell is no book") from error


def shown(names, book, hidden):
    return "\n".join([shown_line(names, book, hidden, k) for k in range(len(names))])


def shown_line(names, book, hidden, k):
    star = "*" if k in hidden else ""
    first = names[k] + star
    rows = [" ".join([str(weight) for weight in row]) for row in book[2][k]]
    return " ".join([first, str(book[0][k])] + picked(names, book[1][k]) + [":", " / ".join(rows)])
