"""What the tests work out anew, by the words of the document, to compare it with the program."""

import itertools
import signal
from contextlib import contextmanager

# Integers that are no numbers of games in any yard of the tests, near and far away.
FAR = (-1, -2, -(10 ** 30), 10 ** 9, 10 ** 30, 10 ** 5000, -(10 ** 5000))


class Odd:
    """An object that is none of the kinds of values that the program takes."""

    def __int__(self):
        return 1

    def __index__(self):
        return 1

    def __str__(self):
        return "1"

    def __repr__(self):
        raise RuntimeError("this object cannot be shown")

    def __eq__(self, other):
        raise RuntimeError("this object cannot be compared")

    def __lt__(self, other):
        raise RuntimeError("this object cannot be compared")

    __hash__ = None


def odd_things():
    """Objects that are neither integers nor strings."""
    return [None, True, False, b"1", b"", 1.0, 0.5, 1j, [], [1], (), (1,), {}, {1: 1}, {1}, Odd(), Odd, object(), len]


@contextmanager
def soon(seconds=60):
    """Fails what takes longer, so that a program that works things out over and over does not hang the tests."""

    def late(number, frame):
        raise AssertionError(f"not answered within {seconds} seconds")

    before = signal.signal(signal.SIGALRM, late)
    signal.alarm(seconds)
    try:
        yield
    finally:
        signal.alarm(0)
        signal.signal(signal.SIGALRM, before)


def unknown_numbers(yard):
    """Integers that the yard does not know."""
    return (*FAR, yard.size, yard.size + 1, yard.size + 1000)


def all_sublists(games):
    """All lists of some of the games."""
    lists = [[]]
    for game in games:
        lists = lists + [part + [game] for part in lists]
    return lists


def low_games(yard):
    """All 256 games of a height of at most 2."""
    games = [0]
    for _ in range(2):
        lists = all_sublists(games)
        games = sorted({yard.game(lefts, rights) for lefts in lists for rights in lists})
    return games


def mixed_games(yard, random, count, most=3):
    """Some games whose options are chosen among the ones before, so that heights grow slowly."""
    games = [0]
    while len(games) < count:
        lefts = [random.choice(games[-30:]) for _ in range(random.randint(0, most))]
        rights = [random.choice(games[-30:]) for _ in range(random.randint(0, most))]
        games.append(yard.game(lefts, rights))
    return games


def row_games(yard, length, side="left"):
    """A row of games, each of which has the one before it as its only option."""
    games = [0]
    for _ in range(length):
        last = [games[-1]]
        games.append(yard.game(last, []) if side == "left" else yard.game([], last))
    return games


def ladder_games(yard, length):
    """A row of games each of which has the two before it as options of each side."""
    games = [0, yard.game([0], [])]
    for _ in range(length - 1):
        games.append(yard.game(games[-2:], games[-2:]))
    return games


def tile_games(yard, rows, columns):
    """Games in rows and columns: left moves up, right moves to the left. Many ways lead to each."""
    games = {}
    for row, column in itertools.product(range(rows), range(columns)):
        lefts = [games[row - 1, column]] if row else []
        rights = [games[row, column - 1]] if column else []
        # Without this, all games of the first row and column would be integers.
        lefts = lefts + ([games[row - 1, column - 1]] if row and column and (row + column) % 3 == 0 else [])
        games[row, column] = yard.game(lefts, rights)
    return games


def zigzag_games(yard, length):
    """A row of games, the one before of which is by turns the only left and the only right option."""
    games = [0]
    for at in range(length):
        last = [games[-1]]
        games.append(yard.game([], last) if at % 2 else yard.game(last, []))
    return games


def heap_games(yard, size):
    """A row of games, each of which has all the ones before as options of each side."""
    games = [0]
    for _ in range(size):
        games.append(yard.game(games, games))
    return games


def beside(yard, one, other):
    """The game in which two games lie side by side and a side moves in one of the two."""
    made = {}
    for first in in_order(yard, one):
        for second in in_order(yard, other):
            sides = []
            for side in ("left", "right"):
                moves = [made[option, second] for option in yard.options(first, side)]
                sides.append(moves + [made[first, option] for option in yard.options(second, side)])
            made[first, second] = yard.game(*sides)
    return made[one, other]


def in_order(yard, game):
    """The followers of a game, each of them behind its options."""
    return sorted(yard.followers(game), key=yard.height)


def shape(yard, game, known=None):
    """A game as nested frozensets, which tells it without numbers."""
    known = {} if known is None else known
    if game not in known:
        lefts = frozenset(shape(yard, option, known) for option in yard.lefts(game))
        rights = frozenset(shape(yard, option, known) for option in yard.rights(game))
        known[game] = (lefts, rights)
    return known[game]


def turned_shape(told):
    """The shape of the turned game of the game that has this shape (point 2.6)."""
    lefts, rights = told
    return (frozenset(turned_shape(one) for one in rights), frozenset(turned_shape(one) for one in lefts))


class Worked:
    """Plays and orders the games of a yard by the words of points 3.1, 3.3 and 3.5."""

    def __init__(self, yard):
        self.yard = yard
        self.wins = {}
        self.least = {}
        self.beside = {}

    def options(self, game, side):
        return self.yard.lefts(game) if side == "left" else self.yard.rights(game)

    def can_win(self, game, side):
        key = (game, side)
        if key not in self.wins:
            other = "right" if side == "left" else "left"
            self.wins[key] = any(not self.can_win(option, other) for option in self.options(game, side))
        return self.wins[key]

    def at_least(self, one, other):
        key = (one, other)
        if key not in self.least:
            self.least[key] = not any(self.at_least(other, option) for option in self.yard.rights(one)) and not any(
                self.at_least(option, one) for option in self.yard.lefts(other))
        return self.least[key]

    def wins_beside(self, one, other, side):
        """Whether a side that is to move wins `one` and the turned `other` side by side.

        The turned game is not made: a side moves in it as the other side moves in the game itself.
        """
        key = (one, other, side)
        if key not in self.beside:
            foe = "right" if side == "left" else "left"
            moves = [(option, other) for option in self.options(one, side)]
            moves = moves + [(one, option) for option in self.options(other, foe)]
            self.beside[key] = any(not self.wins_beside(first, second, foe) for first, second in moves)
        return self.beside[key]
