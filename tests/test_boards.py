"""Points 8.1 to 8.10 for boards of all kinds: read from values, and their games."""

import random
import unittest

from sumsplay.boards import board_of, game_by_parts, game_of, is_board
from sumsplay.cake import Cakes
from sumsplay.errors import BadValue
from sumsplay.floor import Floor
from sumsplay.frogs import Frogs
from sumsplay.heaps import Heaps
from sumsplay.hedge import Hedge
from sumsplay.meeting import Meeting
from sumsplay.table import Table
from sumsplay.yard import Yard
from tests import board_checks
from tests.anew import SIDES, forms_alone, new_values
from tests.board_checks import all_told, values_of
from tests.test_hedge import chosen_edges
from tests.test_table import END, full_rows
from tests.values_anew import KINDS, boards_of_all_kinds, changed, check_values, deep, is_board_value, nested, reached
from tests.worked import beside, odd_things, shape, soon

# Boards near the bounds of point 8.10, each with how many boards with unlike values it leads to and its height.
GREAT = (
    (Heaps([30, 30]), 961, 60), (Heaps([29, 30, 1]), 1860, 60), (Heaps([1] * 8), 256, 8),
    (Hedge([(0, 1, "blue")] + [(1, at, ("red", "green", "blue")[at % 3]) for at in range(2, 12)]), 1025, 11),
    (Hedge([(at, at + 1, ("green", "red", "blue")[at % 3]) for at in range(15)] + [(15, 0, "red")]), 137, 16),
    (Hedge([(0, at, ("green", "blue", "red")[at % 3]) for at in range(1, 11)]), 1024, 10),
    (Floor(["......", "..####", "#....."]), None, None), (Floor(["....", "....", "...."]), None, None),
    (Frogs("TTTT..FFFF"), 1775, 32), (Frogs("TTTTT.FFFFF"), 476, 35), (Frogs("TTT...FFF"), 1400, None), (Frogs("TT......FF"), 1239, None),
    (Cakes([(1, 11)]), 1024, 10), (Cakes([(11, 1)]), 1024, 10), (Cakes([(1, 2)] * 10 + [(1, 1)] * 100), 1024, 10),
    (Cakes([(2, 2), (1, 4), (2, 1)]), None, None), (Table(full_rows(40), 0), 40, 39),
)


class IsBoardTest(unittest.TestCase):
    def test_boards(self):
        boards = boards_of_all_kinds(1, 10, 5)
        self.assertEqual({type(board) for board in boards}, set(KINDS))
        for board in boards:
            self.assertIs(is_board(board), True)
            for side in SIDES:
                for other in board.moves(side):
                    self.assertIs(is_board(other), True)
            for part in board.parts():
                self.assertIs(is_board(part), True)

    def test_what_is_no_board(self):
        for board in boards_of_all_kinds(2, 3, 4):
            for thing in (board.value(), [board], (board,), {1: board}, board.moves("left"), board.moves, [board.value()],
                          Meeting([board])):
                self.assertIs(is_board(thing), False)
        for thing in (*odd_things(), *KINDS, Meeting, 0, 1, "", "heaps", "frogs", "T.F", Yard(), Yard, ("frogs", "T.F")):
            self.assertIs(is_board(thing), False)


class BoardOfTest(unittest.TestCase):
    def test_values_of_each_kind(self):
        for board in boards_of_all_kinds(3, 40, 6):
            value = board.value()
            self.assertTrue(is_board_value(value))
            read = board_of(value)
            self.assertIs(type(read), type(board))
            self.assertIs(is_board(read), True)
            self.assertEqual(all_told(read), all_told(board))

    def test_the_greatest_values(self):
        values = [("heaps", (30,) * 8), ("heaps", ()), ("hedge", ((0, 15, "red"),) * 16), ("hedge", ()),
                  ("floor", ("......",) * 6), ("floor", ("#",)), ("frogs", "TF" * 6), ("frogs", ""),
                  ("cakes", ((12, 12),)), ("cakes", ((1, 1),) * 144), ("cakes", ()), ("table", (END,), 0),
                  ("table", tuple(full_rows(40)), 39)]
        for value in values:
            self.assertTrue(is_board_value(value))
            self.assertEqual(repr(board_of(value).value()), repr(value))
        beyond = [("heaps", (0,) * 9), ("heaps", (31,)), ("hedge", ((0, 15, "red"),) * 17), ("hedge", ((0, 16, "red"),)),
                  ("floor", (".",) * 7), ("floor", (".......",)), ("floor", ()), ("frogs", "T" * 13),
                  ("cakes", ((12, 12), (1, 1))), ("cakes", ((13, 1),)), ("cakes", ((1, 1),) * 145), ("table", (), 0),
                  ("table", (END,) * 41, 0), ("table", (END,), 1), ("table", (END,), -1), ("table", (END,), True)]
        for value in beyond:
            self.assertFalse(is_board_value(value))
            with self.assertRaises(BadValue):
                board_of(value)

    def checked(self, values):
        return check_values(self, board_of, BadValue, lambda board: board.value(), is_board_value, values)

    def test_values_with_one_change(self):
        refused = 0
        for board in boards_of_all_kinds(4, 12, 5):
            refused += self.checked(changed(board.value()))
        self.assertGreater(refused, 10000)

    def test_values_with_two_changes(self):
        chance = random.Random(5)
        for board in boards_of_all_kinds(5, 12, 4):
            once = [value for value in changed(board.value()) if type(value) is tuple]
            for value in chance.sample(once, min(20, len(once))):
                twice = list(changed(value)) if repr_is_short(value) else []
                self.checked(chance.sample(twice, min(20, len(twice))))

    def test_edges_that_do_not_hang_on_the_ground(self):
        chance = random.Random(6)
        dropped = 0
        for _ in range(300):
            edges = chosen_edges(chance, 8, 7)
            value = ("hedge", tuple(edges))
            hangs = Hedge(edges).value() == value
            dropped += not hangs
            self.assertEqual(is_board_value(value), hangs)
            self.checked([value])
        self.assertGreater(dropped, 50)
        with self.assertRaises(BadValue):
            board_of(("hedge", ((0, 1, "blue"), (2, 3, "red"))))
        with self.assertRaises(BadValue):
            board_of(("hedge", ((1, 2, "blue"),)))
        self.assertEqual(len(board_of(("hedge", ((1, 2, "blue"), (1, 0, "red")))).value()[1]), 2)

    def test_things_nested_deep(self):
        for board in boards_of_all_kinds(7, 6, 4):
            self.checked(nested(board.value()))
        for word in ("heaps", "hedge", "floor", "frogs", "cakes", "table"):
            for depth in range(60):
                values = [(word, deep(thing, depth)) for thing in ((), 0, 1, "", "T", (0, 1, "red"), (1, 1), END)]
                values += [(word, deep(END, depth), 0), (word, (END,), deep(0, depth))]
                self.checked(values)

    def test_other_objects(self):
        things = [*odd_things(), *KINDS, 0, 1, "", "frogs", "T.F", ["frogs", "T.F"], ("frogs",), ("T.F",), ("frogs", "T.F", 0),
                  {"frogs": "T.F"}, {0: "frogs", 1: "T.F"}, Frogs("T.F"), [Frogs("T.F")], (Frogs, "T.F"), (Frogs("T.F"),),
                  ("", ""), ("frogs", "frogs"), ("moves", ()), ("Frogs", "T.F"), ("frogs ", "T.F"), ("cake", ()), ("heap", ())]
        self.assertEqual(self.checked(things), len(things))

    def test_words_and_strings_of_kinds_of_their_own(self):
        class Word(str):
            pass

        class Row(tuple):
            pass

        for value in ((Word("frogs"), "T.F"), ("frogs", Word("T.F")), Row(("frogs", "T.F")), ("heaps", Row((1,))),
                      ("floor", (Word("."),)), ("hedge", (Row((0, 1, "red")),)), ("hedge", ((0, 1, Word("red")),))):
            with self.assertRaises(BadValue):
                board_of(value)


def repr_is_short(value):
    """Whether a value can be shown, and soon."""
    try:
        return len(repr(value)) < 200
    except RuntimeError:
        return False


class GameTest(unittest.TestCase):
    def test_games_against_games_that_are_made_anew(self):
        for board in boards_of_all_kinds(8, 15, 5):
            yard = Yard()
            first = board_checks.game_of(yard, board)
            self.assertEqual(game_of(yard, board), first)
            other = Yard()
            self.assertEqual(shape(other, game_of(other, board)), shape(yard, first))

    def test_asked_again_and_in_other_orders(self):
        boards = boards_of_all_kinds(9, 6, 4)
        values = new_values()
        games = [game_of(values.yard, board) for board in boards]
        plain = [game_by_parts(values.sums, board) for board in boards]
        chance = random.Random(9)
        for _ in range(3):
            order = list(range(len(boards)))
            chance.shuffle(order)
            other = new_values()
            told = {at: game_by_parts(other.sums, boards[at]) for at in order}
            for at in order:
                self.assertEqual(game_of(values.yard, boards[at]), games[at])
                self.assertEqual(game_by_parts(values.sums, boards[at]), plain[at])
                self.assertEqual(shape(other.yard, game_of(other.yard, boards[at])), shape(values.yard, games[at]))
                self.assertEqual(shape(other.yard, told[at]), shape(values.yard, plain[at]))

    def test_games_by_parts(self):
        for board in boards_of_all_kinds(10, 15, 4):
            values = new_values()
            plain = game_by_parts(values.sums, board)
            # Other Forms and Sums objects are asked, which were not told how the game was made.
            alone = forms_alone(values.yard)
            game = board_checks.game_of(values.yard, board)
            self.assertEqual(alone.simplest(game), plain)
            total = 0
            for part in board.parts():
                total = beside(values.yard, total, board_checks.game_of(values.yard, part))
            self.assertEqual(alone.simplest(total), plain)
            self.assertIs(alone.is_simplest(plain), True)

    def test_boards_without_moves(self):
        values = new_values()
        for board in (Heaps([]), Heaps([0, 0]), Hedge([]), Hedge([(1, 2, "red")]), Floor(["."]), Floor(["##"]), Floor([".#", "#."]),
                      Frogs(""), Frogs("TF"), Frogs("F..T"), Cakes([]), Cakes([(1, 1)] * 9), Table([END], 0),
                      Table([END, ((2,), ()), END], 2)):
            self.assertEqual(board.parts(), [])
            self.assertEqual(game_of(values.yard, board), 0)
            self.assertEqual(game_by_parts(values.sums, board), 0)

    def test_boards_stay_as_they_are(self):
        values = new_values()
        for board in boards_of_all_kinds(11, 5, 4):
            before = all_told(board)
            game_of(values.yard, board)
            game_by_parts(values.sums, board)
            self.assertEqual(all_told(board), before)

    def test_yards_have_no_effect_on_each_other(self):
        board = Frogs("TT.FF")
        one, other = Yard(), Yard()
        for count in range(5):
            other.game([count], [])
        game_of(one, board)
        size = one.size
        self.assertEqual(shape(other, game_of(other, board)), shape(one, game_of(one, board)))
        self.assertEqual(one.size, size)

    def test_great_boards(self):
        for board, count, height in GREAT:
            values = reached(board)
            self.assertIsNotNone(values)
            if count is not None:
                self.assertEqual(len(values), count)
            with soon(30):
                worth = new_values()
                game = game_of(worth.yard, board)
                plain = game_by_parts(worth.sums, board)
            if height is not None:
                self.assertEqual(worth.yard.height(game), height)
            self.assertLessEqual(worth.yard.height(game), 60)
            self.assertEqual(worth.forms.simplest(game), plain)
            self.assertEqual(game, board_checks.game_of(worth.yard, board))

    def test_boards_in_great_numbers(self):
        with soon(60):
            values = new_values()
            for board in boards_of_all_kinds(12, 40, 7):
                game = game_of(values.yard, board)
                self.assertEqual(game_by_parts(values.sums, board), values.forms.simplest(game))
                for side in SIDES:
                    self.assertEqual([game_of(values.yard, other) for other in board.moves(side)],
                                     [game_of(values.yard, board_of(value)) for value in values_of(board.moves(side))])


if __name__ == "__main__":
    unittest.main()
