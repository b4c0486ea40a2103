"""Boards of all kinds: read from values, and their games."""

from sumsplay.board_forms import BoardForms
from sumsplay.cake import Cakes
from sumsplay.errors import BadValue
from sumsplay.floor import Floor
from sumsplay.frogs import Frogs
from sumsplay.heaps import Heaps
from sumsplay.hedge import Hedge
from sumsplay.positions import Positions
from sumsplay.table import Table
from sumsplay.worked import work_out


def is_board(thing):
    """Whether any Python object is a board."""
    return (type(thing) is Heaps or type(thing) is Hedge or type(thing) is Floor
            or type(thing) is Frogs or type(thing) is Cakes or type(thing) is Table)


def board_of(value):
    """The board that has this value; raises BadValue if any Python object is not exactly the value of a board."""
    if type(value) is not tuple or not value or type(value[0]) is not str:
        raise BadValue("this is not a tuple that begins with a word")
    if value[0] == "table":
        return _table_of(value)
    if len(value) != 2:
        raise BadValue("this is not a word and what the board is made of")
    if value[0] == "frogs":
        return Frogs(value[1])
    return _board_of_things(value[0], _listed(value[1]))


def game_of(yard, board):
    """The number of the game of a board in a yard (point 8.1)."""
    positions = Positions()

    def make(value, lefts, rights):
        return yard.game(lefts, rights)

    return work_out({}, positions.key(board), positions.options, make)


def game_by_parts(sums, board):
    """The number of the simplest form of the sum of the games of the parts of a board."""
    return BoardForms(sums).form(board)


def _table_of(value):
    """The table of a tuple that begins with its word."""
    if len(value) != 3:
        raise BadValue("this is not a word, the rows of a table and a place")
    return Table(_listed(value[1]), value[2])


def _board_of_things(word, things):
    """The board of a kind that is made of a list of things."""
    if word == "heaps":
        return Heaps(things)
    if word == "floor":
        return Floor(things)
    if word == "cakes":
        return Cakes(things)
    if word != "hedge":
        raise BadValue("there is no such kind of boards")
    board = Hedge(things)
    # A hedge leaves out the edges that do not hang on the ground.
    if board.value() != (word, tuple(things)):
        raise BadValue("an edge does not hang on the ground")
    return board


def _listed(thing):
    """The list of the items of a tuple; raises BadValue if any Python object is none."""
    if type(thing) is not tuple:
        raise BadValue("this is not a tuple of what the board is made of")
    return list(thing)
