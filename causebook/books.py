"""Books: tuples (sizes, causes, tables), made and refused, and the chances of their worlds."""

from causebook.errors import NoBook
from causebook.shapes import order_of
from causebook.shares import is_whole, share, times, total
from causebook.worlds import count_of, rank, worlds_by

MOST_THINGS = 12
MOST_CAUSES = 5
LEAST_SIZE = 2
GREATEST_SIZE = 4


def book(sizes, causes, tables):
    check_book(sizes, causes, tables)
    return copied((sizes, causes, tables))


def check_book(sizes, causes, tables):
    if not are_sizes(sizes):
        raise NoBook("sizes are a list of at most 12 whole numbers from 2 to 4")
    if not are_causes(causes, len(sizes)):
        raise NoBook("causes are a list with a rising list of at most 5 things for each thing")
    if not are_tables(sizes, causes, tables):
        raise NoBook("tables are a list with, for each thing, a row of weights for each world of its causes")
    # It is asked for its refusal alone: a ring is told of what is else a book.
    order_of(causes)


def is_list_of(thing, length):
    return isinstance(thing, list) and len(thing) == length


def is_from_to(thing, least, greatest):
    return is_whole(thing) and least <= thing <= greatest


def are_sizes(sizes):
    if not isinstance(sizes, list) or len(sizes) > MOST_THINGS:
        return False
    return all([is_from_to(size, LEAST_SIZE, GREATEST_SIZE) for size in sizes])


def are_causes(causes, number):
    return is_list_of(causes, number) and all([are_own_causes(own, number) for own in causes])


def are_own_causes(own, number):
    if not isinstance(own, list) or len(own) > MOST_CAUSES:
        return False
    # The kinds first: what is no whole number can't be asked whether it rises.
    return all([is_from_to(c, 0, number - 1) for c in own]) and own == sorted(set(own))


def are_tables(sizes, causes, tables):
    if not is_list_of(tables, len(sizes)):
        return False
    for size, own, table in zip(sizes, causes, tables):
        if not is_table(table, count_of(picked(sizes, own)), size):
            return False
    return True


def is_table(table, rows, size):
    return is_list_of(table, rows) and all([is_row(row, size) for row in table])


def is_row(row, size):
    return is_list_of(row, size) and all([is_weight(weight) for weight in row]) and sum(row) > 0


def is_weight(weight):
    return is_whole(weight) and weight >= 0


def copied(book):
    tables = []
    for table in book[2]:
        tables.append([list(row) for row in table])
    return (list(book[0]), [list(own) for own in book[1]], tables)


def picked(values, things):
    return [values[k] for k in things]


def row_at(book, k, world):
    own = book[1][k]
    place = rank(picked(book[0], own), picked(world, own))
    return list(book[2][k][place])


def chance_at(book, k, world):
    row = row_at(book, k, world)
    return share(row[world[k]], sum(row))


def world_chance(book, world):
    found = (1, 1)
    for k in range(len(world)):
        found = times(found, chance_at(book, k, world))
    return found


def by_worlds(book, view):
    return total([world_chance(book, world) for world in worlds_by(book[0], view)])


def set_to(book, k, a):
    found = copied(book)
    found[1][k] = []
    found[2][k] = [[1 if value == a else 0 for value in range(book[0][k])]]
    return found
