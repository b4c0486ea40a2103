"""Points 8.1 to 8.3 and 8.8: cakes."""

import itertools
import random
import unittest

from sumsplay.cake import Cakes
from sumsplay.errors import BadValue
from tests.anew import SIDES, new_values
from tests.board_checks import game_of, moves_once, no_change, parts_make_the_board, parts_of_parts, values_of
from tests.worked import odd_things, soon

NO_LENGTHS = (0, 13, -1, -12, 14, 144, 10 ** 30, -(10 ** 30), 10 ** 5000, "1", "", "a", True, False)
# The games of cakes with as many rows (down) and columns (across), which are integers.
KNOWN = ((0, 1, 2, 3, 4, 5, 6, 7), (-1, 0, 0, 1, 1, 2, 2, 3), (-2, 0, 0, 1, 1, 2, 2, 3), (-3, -1, -1, 0, 0, 0, 0, 1))


def chosen_cakes(chance, most=12):
    cakes, squares = [], 0
    for _ in range(chance.randint(0, 9)):
        cake = (chance.randint(1, most), chance.randint(1, most))
        if squares + cake[0] * cake[1] <= 144:
            squares += cake[0] * cake[1]
            cakes.append(cake)
    return cakes


def some_cakes(seed, count, most=12):
    chance = random.Random(seed)
    return [chosen_cakes(chance, chance.randint(1, most)) for _ in range(count)]


def moves_anew(cakes, side):
    """The values of the moves by the words of point 8.8."""
    found = []
    for place in range(len(cakes)):
        rows, columns = cakes[place]
        for first in range(1, columns if side == "left" else rows):
            new = list(cakes)
            del new[place]
            # The second piece is put in first, so that the first one comes to stand before it.
            new.insert(place, (rows, columns - first) if side == "left" else (rows - first, columns))
            new.insert(place, (rows, first) if side == "left" else (first, columns))
            found.append(("cakes", tuple(new)))
    return found


class CakesTest(unittest.TestCase):
    def test_values(self):
        some = [[], [(12, 12)], [(1, 1)] * 144, [(1, 12), (12, 1)], [(2, 3)] * 3, [(11, 13 - 1), (1, 12)]]
        for cakes in some + some_cakes(1, 200):
            value = Cakes(cakes).value()
            self.assertEqual(value, ("cakes", tuple(cakes)))
            self.assertEqual([type(value), type(value[0]), type(value[1])], [tuple, str, tuple])

    def test_values_are_the_same_exactly_if_the_cakes_are(self):
        sizes = list(itertools.product((1, 2, 3), repeat=2))
        lists = [list(cakes) for count in range(4) for cakes in itertools.product(sizes, repeat=count)]
        self.assertEqual(len({Cakes(cakes).value() for cakes in lists}), len(lists))

    def test_moves_in_their_order(self):
        for cakes in [[], [(1, 1)], [(12, 12)], [(1, 12)], [(12, 1)], [(1, 1)] * 144] + some_cakes(2, 200):
            board = Cakes(cakes)
            for side in SIDES:
                self.assertEqual(values_of(board.moves(side)), moves_anew(cakes, side))
            moves_once(self, board)

    def test_named_moves(self):
        board = Cakes([(1, 1), (2, 3)])
        self.assertEqual(values_of(board.moves("left")),
                         [("cakes", ((1, 1), (2, 1), (2, 2))), ("cakes", ((1, 1), (2, 2), (2, 1)))])
        self.assertEqual(values_of(board.moves("right")), [("cakes", ((1, 1), (1, 3), (1, 3)))])
        self.assertEqual(values_of(Cakes([(3, 1), (1, 2)]).moves("right")),
                         [("cakes", ((1, 1), (2, 1), (1, 2))), ("cakes", ((2, 1), (1, 1), (1, 2)))])

    def test_no_move_is_told_twice(self):
        sizes = [(1, 1), (1, 2), (2, 1), (1, 3), (2, 2), (2, 3), (1, 4)]
        for count in range(4):
            for cakes in itertools.product(sizes, repeat=count):
                board = Cakes(list(cakes))
                for side in SIDES:
                    values = values_of(board.moves(side))
                    self.assertEqual(len(values), len(set(values)))
                    self.assertEqual(values, moves_anew(list(cakes), side))

    def test_parts(self):
        for cakes in [[], [(1, 1)] * 144, [(12, 12)], [(1, 2), (1, 1), (2, 1)]] + some_cakes(3, 200):
            board = Cakes(cakes)
            self.assertEqual(values_of(board.parts()), [("cakes", (cake,)) for cake in cakes if max(cake) > 1])
            self.assertIs(type(board.parts()), list)
            parts_of_parts(self, board)

    def test_the_game(self):
        values = new_values()
        for cakes in some_cakes(4, 60, 3):
            if sum(rows * columns for rows, columns in cakes) <= 12:
                parts_make_the_board(self, values, Cakes(cakes))

    def test_named_games(self):
        values = new_values()
        for rows, line in enumerate(KNOWN, 1):
            for columns, number in enumerate(line, 1):
                if rows * columns <= 15:
                    game = game_of(values.yard, Cakes([(rows, columns)]))
                    self.assertEqual(values.number_of(game).text(), str(number), (rows, columns))
        self.assertEqual(game_of(values.yard, Cakes([])), 0)
        self.assertEqual(game_of(values.yard, Cakes([(1, 1), (1, 1)])), 0)

    def test_turned_cakes(self):
        values = new_values()
        for cakes in some_cakes(5, 40, 3):
            if sum(rows * columns for rows, columns in cakes) <= 10:
                other = [(columns, rows) for rows, columns in cakes]
                self.assertEqual(game_of(values.yard, Cakes(other)),
                                 values.yard.turned(game_of(values.yard, Cakes(cakes))))

    def test_no_change(self):
        for cakes in some_cakes(6, 40, 5):
            no_change(self, Cakes, cakes)

    def refused(self, thing):
        with self.assertRaises(BadValue):
            Cakes(thing)

    def test_what_is_no_list_of_cakes(self):
        for thing in odd_things():
            # The empty list is a board.
            if type(thing) is not list or len(thing) > 0:
                self.refused(thing)
        cake = (2, 3)
        for thing in (1, 0, "", "12", cake, (cake,), {cake: 1}, {cake}, iter([cake]), range(2), Cakes([])):
            self.refused(thing)

    def test_too_many_squares(self):
        for cakes in ([(12, 12)], [(1, 1)] * 144, [(12, 6), (6, 12)], [(11, 12), (3, 4)], [(1, 12)] * 12, [(12, 11), (12, 1)]):
            self.assertEqual(Cakes(cakes).value(), ("cakes", tuple(cakes)))
            for more in ((1, 1), (1, 2), (12, 12)):
                self.refused(cakes + [more])
                self.refused([more] + cakes)
        for cakes in ([(1, 1)] * 145, [(1, 1)] * 10000, [(12, 12)] * 2, [(11, 11), (5, 5)], [(11, 11), (4, 6)]):
            self.refused(cakes)

    def test_cakes_that_are_none(self):
        good = (2, 3)
        wrong = [[2, 3], (), (1,), (1, 2, 3), (1, 1, 1, 1), ((1, 2),), ((1, 2), (1, 2)), "12", 7, 12, good + good, {1, 2}]
        wrong += [(thing, 1) for thing in (*NO_LENGTHS, *odd_things())]
        wrong += [(1, thing) for thing in (*NO_LENGTHS, *odd_things())]
        wrong += [(thing, thing) for thing in (*NO_LENGTHS, *odd_things())] + odd_things()
        for cake in wrong:
            for cakes in ([cake], [good, cake], [cake, good]):
                kept = list(cakes)
                self.refused(cakes)
                self.assertEqual([id(one) for one in cakes], [id(one) for one in kept])

    def test_many_followers(self):
        with soon():
            values = new_values()
            parts_make_the_board(self, values, Cakes([(1, 11)]))
            parts_make_the_board(self, values, Cakes([(2, 3), (2, 2), (1, 2)]))
            parts_make_the_board(self, values, Cakes([(1, 2), (2, 1)] * 5))


if __name__ == "__main__":
    unittest.main()
