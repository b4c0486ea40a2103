"""Values of boards, meetings and matches: which ones there are, by the words of the document, and changed ones."""

import random

from sumsplay.cake import Cakes
from sumsplay.floor import Floor
from sumsplay.frogs import Frogs
from sumsplay.heaps import Heaps
from sumsplay.hedge import Hedge
from sumsplay.table import Table
from tests.anew import SIDES
from tests.test_cake import chosen_cakes
from tests.test_floor import chosen_rows as chosen_floor
from tests.test_hedge import chosen_edges, hanging
from tests.test_table import chosen_rows as chosen_table
from tests.worked import odd_things

KINDS = (Heaps, Hedge, Floor, Frogs, Cakes, Table)
WORDS = ("heaps", "hedge", "floor", "frogs", "cakes", "table")


def chosen_board(chance, size):
    """A board of a kind by chance. Its size, from 1 on, tells how many boards follow, as far as this can be told."""
    word = chance.choice(WORDS)
    if word == "heaps":
        return Heaps([chance.randint(0, size) for _ in range(chance.randint(0, 2))])
    if word == "hedge":
        return Hedge(chosen_edges(chance, size + 1, size))
    if word == "floor":
        return Floor(chosen_floor(chance, max(2, (size + 2) // 2), 0.7))
    if word == "frogs":
        return Frogs("".join(chance.choice("TF.") for _ in range(chance.randint(0, size + 2))))
    if word == "cakes":
        return Cakes(chosen_cakes(chance, (size + 2) // 2)[:2])
    return Table(chosen_table(chance, size + 2, 2), 0)


def reached(board, most=2000):
    """The values of the boards that rows of moves lead to, or None if there are more than this."""
    found, waiting = {board.value()}, [board]
    while waiting and len(found) <= most:
        one = waiting.pop()
        for side in SIDES:
            for other in one.moves(side):
                if other.value() not in found:
                    found.add(other.value())
                    waiting.append(other)
    return found if len(found) <= most else None


def boards_of_all_kinds(seed, count, size, most=2000):
    """As many boards of each of the six kinds, none of which leads to more boards than told."""
    chance = random.Random(seed)
    found = {kind: [] for kind in KINDS}
    while any(len(boards) < count for boards in found.values()):
        board = chosen_board(chance, size)
        if len(found[type(board)]) < count and reached(board, most) is not None:
            found[type(board)].append(board)
    return [board for kind in KINDS for board in found[kind]]


def turned_board(board):
    """The board on which the sides are changed."""
    word, things, *place = board.value()
    if word == "heaps":
        return board
    if word == "hedge":
        colours = {"blue": "red", "red": "blue", "green": "green"}
        return Hedge([(one, other, colours[colour]) for one, other, colour in things])
    if word == "floor":
        return Floor(["".join(line) for line in zip(*things)])
    if word == "frogs":
        return Frogs(things[::-1].translate(str.maketrans("TF", "FT")))
    if word == "cakes":
        return Cakes([(columns, rows) for rows, columns in things])
    return Table([(rights, lefts) for lefts, rights in things], place[0])


def is_whole(thing, least, most):
    return type(thing) is int and least <= thing <= most


def is_tuple(thing, count=None):
    return type(thing) is tuple and count in (None, len(thing))


def is_heap_value(things):
    return is_tuple(things) and len(things) <= 8 and all(is_whole(size, 0, 30) for size in things)


def is_edge(thing):
    return is_tuple(thing, 3) and all(is_whole(knot, 0, 15) for knot in thing[:2]) and (
        type(thing[2]) is str and thing[2] in ("blue", "green", "red"))


def is_hedge_value(things):
    if not is_tuple(things) or len(things) > 16 or not all(is_edge(edge) for edge in things):
        return False
    return hanging(list(things)) == list(things)


def is_floor_value(things):
    if not is_tuple(things) or not 1 <= len(things) <= 6:
        return False
    return all(type(row) is str and 1 <= len(row) <= 6 and set(row) <= set(".#") for row in things) and (
        len({len(row) for row in things}) == 1)


def is_frogs_value(thing):
    return type(thing) is str and len(thing) <= 12 and set(thing) <= set("TF.")


def is_cakes_value(things):
    if not is_tuple(things) or not all(is_tuple(cake, 2) for cake in things):
        return False
    return all(is_whole(length, 1, 12) for cake in things for length in cake) and (
        sum(cake[0] * cake[1] for cake in things) <= 144)


def is_table_value(rows, place):
    if not is_tuple(rows) or not 1 <= len(rows) <= 40 or not is_whole(place, 0, len(rows) - 1):
        return False
    for at, row in enumerate(rows):
        if not is_tuple(row, 2):
            return False
        for places in row:
            if not is_tuple(places) or not all(is_whole(to, at + 1, len(rows) - 1) for to in places):
                return False
            if list(places) != sorted(set(places)):
                return False
    return True


def is_board_value(value):
    """Whether any Python object is the value of a board."""
    checks = {"heaps": is_heap_value, "hedge": is_hedge_value, "floor": is_floor_value, "frogs": is_frogs_value,
              "cakes": is_cakes_value}
    if not is_tuple(value) or len(value) not in (2, 3) or type(value[0]) is not str:
        return False
    if value[0] == "table":
        return len(value) == 3 and is_table_value(value[1], value[2])
    return len(value) == 2 and value[0] in checks and checks[value[0]](value[1])


def is_meeting_value(value):
    return is_tuple(value) and len(value) <= 8 and all(is_board_value(part) for part in value)


def changed(thing):
    """What becomes of a value by one change somewhere in it."""
    yield from odd_things()
    yield (thing,)
    yield [thing]
    if type(thing) is int:
        yield from (thing + 1, thing - 1, -thing, str(thing), thing + 100, 10 ** 30, thing + 0.0, thing == 1)
    elif type(thing) is str:
        yield from (thing + "x", thing + ".", thing + "T", thing.upper(), thing[1:], "", thing * 2, list(thing))
        yield from (*WORDS, "left", "right", "board", "blue", "green", thing.encode(), tuple(thing), " " + thing)
    elif type(thing) is tuple:
        yield list(thing)
        yield {at: part for at, part in enumerate(thing)}
        yield iter(thing)
        yield thing[::-1]
        yield thing * 2
        for at, part in enumerate(thing):
            yield thing[:at] + thing[at + 1:]
            yield thing[:at] + (part,) + thing[at:]
            for more in (0, "", None, (), "T"):
                yield thing[:at] + (more,) + thing[at:]
                yield thing[:at + 1] + (more,) + thing[at + 1:]
            for new in changed(part):
                yield thing[:at] + (new,) + thing[at + 1:]


def deep(thing, depth):
    """A thing within as many tuples."""
    for _ in range(depth):
        thing = (thing,)
    return thing


def nested(value):
    """A value with things nested up to 60 deep in the places of its parts."""
    for depth in (1, 2, 10, 57, 58, 59, 60):
        yield deep(value, depth)
        yield deep((), depth)
        if type(value) is tuple:
            for at, part in enumerate(value):
                yield value[:at] + (deep(part, depth - 1),) + value[at + 1:]
                yield value[:at] + (deep(0, depth - 1),) + value[at + 1:]


def check_values(test, read, refusal, told, is_value, values):
    """Each of some values is read if it is one, and refused if not; tells how many were refused.

    `read` reads a value, `refusal` is the error of what is none, and `told` tells the value of what was read.
    """
    refused = 0
    for value in values:
        if is_value(value):
            test.assertEqual(repr(told(read(value))), repr(value))
        else:
            refused += 1
            with test.assertRaises(refusal):
                read(value)
    return refused
