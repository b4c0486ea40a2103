"""Points 8.1 to 8.3 and 8.9: tables."""

import random
import unittest

from sumsplay.errors import BadValue
from sumsplay.table import Table
from tests.anew import SIDES, new_values
from tests.board_checks import game_of, moves_once, no_change, parts_make_the_board, parts_of_parts, values_of
from tests.worked import odd_things, soon

END = ((), ())


def chosen_rows(chance, count, most=4):
    rows = []
    for at in range(count):
        later = range(at + 1, count)
        sides = [tuple(sorted(chance.sample(later, min(len(later), chance.randint(0, most))))) for _ in SIDES]
        rows.append(tuple(sides))
    return rows


def some_tables(seed, count, most=40):
    chance = random.Random(seed)
    return [chosen_rows(chance, chance.randint(1, most), chance.randint(1, 6)) for _ in range(count)]


def full_rows(count):
    """The table in which both sides can move to all places behind."""
    return [(tuple(range(at + 1, count)),) * 2 for at in range(count)]


class TableTest(unittest.TestCase):
    def test_values(self):
        for rows in [[END], [END] * 40, full_rows(40)] + some_tables(1, 60):
            for place in {0, len(rows) - 1, len(rows) // 2}:
                value = Table(rows, place).value()
                self.assertEqual(value, ("table", tuple(rows), place))
                self.assertEqual([type(part) for part in value], [str, tuple, int])
                self.assertEqual(type(value), tuple)

    def test_moves_in_their_order(self):
        for rows in [[END], [END] * 40, full_rows(40)] + some_tables(2, 60):
            for place, row in enumerate(rows):
                board = Table(rows, place)
                for number, side in enumerate(SIDES):
                    self.assertEqual(values_of(board.moves(side)), [("table", tuple(rows), to) for to in row[number]])
            moves_once(self, Table(rows, 0))

    def test_boards_behind_moves_are_boards(self):
        rows = [((1, 2), (3,)), ((3,), (2,)), ((), (3,)), END]
        board = Table(rows, 0).moves("left")[0]
        self.assertEqual(board.value(), Table(rows, 1).value())
        self.assertEqual(values_of(board.moves("right")), [("table", tuple(rows), 2)])
        self.assertEqual(values_of(board.moves("right")[0].moves("right")), [("table", tuple(rows), 3)])
        self.assertEqual(values_of(board.parts()), [board.value()])
        self.assertEqual(board.moves("left")[0].parts(), [])

    def test_parts(self):
        for rows in some_tables(3, 60):
            for place, row in enumerate(rows):
                board = Table(rows, place)
                self.assertEqual(values_of(board.parts()), [board.value()] if row != END else [])
                self.assertIs(type(board.parts()), list)
                parts_of_parts(self, board)
        for row in (((1,), ()), ((), (1,))):
            self.assertEqual(len(Table([row, END], 0).parts()), 1)

    def test_the_game(self):
        values = new_values()
        for rows in some_tables(4, 60, 9):
            games = [0] * len(rows)
            for place in reversed(range(len(rows))):
                games[place] = values.yard.game(*[[games[to] for to in side] for side in rows[place]])
                self.assertEqual(game_of(values.yard, Table(rows, place)), games[place])
            parts_make_the_board(self, values, Table(rows, 0))

    def test_named_games(self):
        values = new_values()
        for count in range(1, 12):
            self.assertEqual(game_of(values.yard, Table(full_rows(count), 0)), values.heap(count - 1))
        integers = [((at + 1,), ()) for at in range(39)] + [END]
        for place in range(40):
            self.assertEqual(values.number_of(game_of(values.yard, Table(integers, place))).text(), str(39 - place))

    def test_no_change(self):
        chance = random.Random(5)
        for rows in some_tables(6, 20, 9):
            place = chance.randrange(len(rows))
            no_change(self, lambda passed: Table(passed, place), rows)

    def refused(self, rows, place=0):
        with self.assertRaises(BadValue):
            Table(rows, place)

    def test_numbers_of_rows(self):
        for count in (1, 2, 39, 40):
            self.assertEqual(len(Table([END] * count, 0).value()[1]), count)
        for count in (0, 41, 42, 1000):
            self.refused([END] * count)

    def test_what_is_no_list_of_rows(self):
        for thing in odd_things():
            self.refused(thing)
        for thing in (1, 0, "", "12", (END,), END, {END: 1}, {END}, iter([END]), Table([END], 0)):
            self.refused(thing)

    def refused_row(self, row):
        """The row stands at each place of tables of four rows."""
        for at in range(4):
            rows = [END] * 4
            rows[at] = row
            kept = list(rows)
            for place in (0, 3):
                self.refused(rows, place)
            self.assertEqual([id(one) for one in rows], [id(one) for one in kept])

    def test_rows_that_are_none(self):
        for row in [[(), ()], (), ((),), ((), (), ()), ([], ()), ((), []), ((3,),), (3, 3), ((3,), 3), (3, (3,)), "ab", 7,
                    ((), None), ("", ()), ((), ""), ({}, ()), (set(), ()), (((),), ()), ((), ((3,),)), *odd_things()]:
            self.refused_row(row)

    def test_places_that_no_side_can_move_to(self):
        wrong = [-1, 4, 5, 40, -4, 10 ** 30, -(10 ** 30), 10 ** 5000, "1", "", *odd_things()]
        for places in [(thing,) for thing in wrong] + [(3, 3), (3, 2), (2, 1), (3, 3, 3), (2, 3, 3), (3, 2, 3)]:
            self.refused_row((places, ()))
            self.refused_row(((), places))
            self.refused_row((places, places))

    def test_places_behind_their_own_row(self):
        for at in range(4):
            for place in range(-1, 6):
                for row in (((place,), ()), ((), (place,))):
                    rows = [END] * 4
                    rows[at] = row
                    if at < place < 4:
                        self.assertEqual(Table(rows, at).value(), ("table", tuple(rows), at))
                    else:
                        self.refused(rows)
        for good in ((1, 2), (1, 3), (1, 2, 3), (3,)):
            self.assertEqual(len(Table([(good, ()), END, END, END], 0).moves("left")), len(good))
        for wrong in ((2, 1), (1, 1), (1, 3, 2), (0, 1), (1, 4), (1, True), (True,), (False, 1), (1, 2, 2)):
            self.refused([(wrong, ()), END, END, END])
            self.refused([((), wrong), END, END, END])
        # A later row is looked at, too, though nobody can move to it.
        self.refused([END, END, ((2,), ()), END], 1)

    def test_places_that_are_none(self):
        for count in (1, 2, 40):
            rows = [END] * count
            self.assertEqual(Table(rows, count - 1).value()[2], count - 1)
            for place in (-1, -count, count, count + 1, 10 ** 30, 10 ** 5000, "0", "", True, *odd_things()):
                self.refused(rows, place)
                self.assertEqual(rows, [END] * count)

    def test_many_followers(self):
        with soon():
            values = new_values()
            parts_make_the_board(self, values, Table(full_rows(40), 0))
            for rows in some_tables(7, 10):
                parts_make_the_board(self, values, Table(rows, 0))


if __name__ == "__main__":
    unittest.main()
