"""What holds for boards of every kind (points 8.1 to 8.3), checked for some boards."""

from tests.anew import SIDES


def game_of(yard, board, known=None):
    """The game of a board by the words of point 8.1."""
    known = {} if known is None else known
    value = board.value()
    if value not in known:
        sides = [[game_of(yard, other, known) for other in board.moves(side)] for side in SIDES]
        known[value] = yard.game(*sides)
    return known[value]


def values_of(boards):
    return [board.value() for board in boards]


def all_told(board):
    """All that a board tells."""
    return board.value(), values_of(board.moves("left")), values_of(board.moves("right")), values_of(board.parts())


def parts_of_parts(test, board):
    """The only part of a part has the value of the part, and a board without moves has no parts."""
    for part in board.parts():
        test.assertIs(type(part), type(board))
        test.assertEqual(values_of(part.parts()), [part.value()])
        test.assertTrue(part.moves("left") or part.moves("right"))
    if not board.moves("left") and not board.moves("right"):
        test.assertEqual(board.parts(), [])
    else:
        test.assertNotEqual(board.parts(), [])


def moves_once(test, board):
    """Each move leads to another board of the same kind, and no value is told twice."""
    for side in SIDES:
        moves = board.moves(side)
        test.assertIs(type(moves), list)
        values = values_of(moves)
        test.assertEqual(len(values), len(set(values)))
        test.assertNotIn(board.value(), values)
        for other in moves:
            test.assertIs(type(other), type(board))


def parts_make_the_board(test, values, board):
    """The sum of the games of the parts is alike to the game of the board (point 8.3)."""
    yard, known = values.yard, {}
    games = [game_of(yard, part, known) for part in board.parts()]
    game = game_of(yard, board, known)
    test.assertEqual(values.sums.plain(games), values.forms.simplest(game))
    test.assertIs(values.forms.order.alike(game, values.sums.total(games)), True)


def no_change(test, make, passed):
    """A board does not change and keeps nothing that was passed; what it tells is new.

    `make` makes a board of the list `passed`, items of which may be replaced.
    """
    kept = list(passed)
    board = make(passed)
    test.assertEqual(passed, kept)
    before = all_told(board)
    for _ in range(2):
        board.moves("left").clear()
        board.moves("right").append(None)
        board.parts().append(None)
        for side in SIDES:
            for other in board.moves(side):
                other.moves(side).clear()
                other.parts().clear()
        test.assertEqual(all_told(board), before)
        test.assertIsNot(board.moves("left"), board.moves("left"))
        test.assertIsNot(board.parts(), board.parts())
    passed.clear()
    test.assertEqual(all_told(board), before)
    test.assertEqual(all_told(make(kept)), before)
