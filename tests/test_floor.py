"""Points 8.1 to 8.3 and 8.6: floors."""

import itertools
import random
import unittest

from sumsplay.errors import BadValue
from sumsplay.floor import Floor
from tests.anew import SIDES, new_values
from tests.board_checks import game_of, moves_once, no_change, parts_make_the_board, parts_of_parts, values_of
from tests.worked import odd_things, soon


def chosen_rows(chance, most=6, free=0.6):
    width = chance.randint(1, most)
    return ["".join("." if chance.random() < free else "#" for _ in range(width)) for _ in range(chance.randint(1, most))]


def some_floors(seed, count, most=6):
    chance = random.Random(seed)
    return [chosen_rows(chance, most, chance.choice((0.3, 0.5, 0.7, 0.9))) for _ in range(count)]


def free_cells(rows):
    return {(row, column) for row, line in enumerate(rows) for column, cell in enumerate(line) if cell == "."}


def drawn(rows, cells):
    """The floor of the same size on which just these cells are free."""
    return tuple("".join("." if (row, column) in cells else "#" for column in range(len(line)))
                 for row, line in enumerate(rows))


def moves_anew(rows, side):
    """The values of the moves by the words of point 8.6."""
    cells, found = free_cells(rows), []
    for row, column in sorted(cells):
        second = (row + 1, column) if side == "left" else (row, column + 1)
        if second in cells:
            found.append(("floor", drawn(rows, cells - {(row, column), second})))
    return found


def parts_anew(rows):
    """The values of the parts by the words of point 8.6."""
    cells, found = free_cells(rows), []
    while cells:
        group = {min(cells)}
        while True:
            more = {(row, column) for row, column in cells - group for one in group
                    if abs(row - one[0]) + abs(column - one[1]) == 1}
            if not more:
                break
            group |= more
        cells -= group
        if len(group) > 1:
            top, left = min(row for row, _ in group), min(column for _, column in group)
            height, width = max(row for row, _ in group) - top + 1, max(column for _, column in group) - left + 1
            moved = {(row - top, column - left) for row, column in group}
            found.append(("floor", drawn(["#" * width] * height, moved)))
    return found


class FloorTest(unittest.TestCase):
    def test_values(self):
        for rows in some_floors(1, 200):
            value = Floor(rows).value()
            self.assertEqual(value, ("floor", tuple(rows)))
            self.assertEqual([type(value), type(value[0]), type(value[1])], [tuple, str, tuple])

    def test_all_sizes_all_free_and_all_covered(self):
        for height, width in itertools.product(range(1, 7), repeat=2):
            free = Floor(["." * width] * height)
            self.assertEqual(free.value(), ("floor", ("." * width,) * height))
            self.assertEqual(len(free.moves("left")), (height - 1) * width)
            self.assertEqual(len(free.moves("right")), height * (width - 1))
            self.assertEqual(values_of(free.parts()), [free.value()] if height * width > 1 else [])
            covered = Floor(["#" * width] * height)
            self.assertEqual((covered.moves("left"), covered.moves("right"), covered.parts()), ([], [], []))
            self.assertEqual(covered.value(), ("floor", ("#" * width,) * height))

    def test_values_are_the_same_exactly_if_the_floors_are(self):
        lists = []
        for height, width in itertools.product((1, 2), repeat=2):
            lines = ["".join(line) for line in itertools.product(".#", repeat=width)]
            lists += [list(rows) for rows in itertools.product(lines, repeat=height)]
        self.assertEqual(len({Floor(rows).value() for rows in lists}), len(lists))

    def test_moves_in_their_order(self):
        for rows in some_floors(2, 300):
            board = Floor(rows)
            for side in SIDES:
                self.assertEqual(values_of(board.moves(side)), moves_anew(rows, side))
            moves_once(self, board)

    def test_named_moves(self):
        board = Floor(["...", "..#"])
        self.assertEqual(values_of(board.moves("left")), [("floor", ("#..", "#.#")), ("floor", (".#.", ".##"))])
        self.assertEqual(values_of(board.moves("right")),
                         [("floor", ("##.", "..#")), ("floor", (".##", "..#")), ("floor", ("...", "###"))])

    def test_parts(self):
        several = 0
        for rows in some_floors(3, 400):
            board = Floor(rows)
            expected = parts_anew(rows)
            several += len(expected) > 1
            self.assertEqual(values_of(board.parts()), expected)
            self.assertIs(type(board.parts()), list)
            parts_of_parts(self, board)
        self.assertGreater(several, 40)

    def test_named_parts(self):
        self.assertEqual(Floor(["."]).parts(), [])
        self.assertEqual(Floor([".#.", "#.#", ".#."]).parts(), [])
        # The first cell of the one part is above, and to the right of, the first cell of the other one.
        rows = ["#....", ".##..", ".####", "#.#..", "#####"]
        self.assertEqual(values_of(Floor(rows).parts()),
                         [("floor", ("....", "##..")), ("floor", (".", ".")), ("floor", ("..",))])
        # A part lies around another one, which is left out of its rectangle.
        ring = [".....", ".###.", ".#.#.", ".#.#.", ".###.", "....."]
        self.assertEqual(values_of(Floor(ring).parts()),
                         [("floor", tuple(row if row[1] == "." else ".###." for row in ring)), ("floor", (".", "."))])
        self.assertEqual(values_of(Floor(["##", "#.", "#.", "##"]).parts()), [("floor", (".", "."))])

    def test_the_game(self):
        values = new_values()
        for rows in some_floors(4, 50, 4):
            if len(free_cells(rows)) <= 10:
                parts_make_the_board(self, values, Floor(rows))

    def test_named_games(self):
        values = new_values()
        yard = values.yard
        numbers = {("..",): "-1", (".", "."): "1", (".",): "0", ("...",): "-1", ("....",): "-2", (".", ".", ".", "."): "2",
                   ("..", ".#"): None, ("..", ".."): None}
        for rows, expected in numbers.items():
            told = values.number_of(game_of(yard, Floor(list(rows))))
            self.assertEqual(told and told.text(), expected)
        self.assertEqual(values.heap_of(game_of(yard, Floor(["..", ".#"]))), 1)
        switch = yard.game([yard.game([0], [])], [yard.game([], [0])])
        self.assertEqual(values.forms.simplest(game_of(yard, Floor(["..", ".."]))), switch)

    def test_turned_floors(self):
        values = new_values()
        for rows in some_floors(5, 20, 3):
            other = ["".join(line) for line in zip(*rows)]
            self.assertEqual(game_of(values.yard, Floor(other)),
                             values.yard.turned(game_of(values.yard, Floor(rows))))

    def test_no_change(self):
        for rows in some_floors(6, 30, 4):
            no_change(self, Floor, rows)

    def refused(self, thing):
        with self.assertRaises(BadValue):
            Floor(thing)

    def test_what_is_no_list_of_rows(self):
        for thing in odd_things():
            self.refused(thing)
        for thing in (1, "", ".", "..", (".",), {".": 1}, {"."}, iter(["."]), Floor(["."])):
            self.refused(thing)

    def test_numbers_and_lengths_of_rows(self):
        for rows in ([], ["."] * 7, [".."] * 100, [""], ["", ""], ["......."], ["." * 7] * 2, ["." * 100], [".", ""],
                     ["", "."], [".", ".."], ["..", "."], ["..", "..", "..."], ["......", "......."], ["#" * 7]):
            kept = list(rows)
            self.refused(rows)
            self.assertEqual(rows, kept)

    def test_other_characters(self):
        for sign in ("x", " ", "\n", "\t", "0", "o", ",", ":", "*", "T", "-"):
            for rows in ([sign], [sign + "."], ["." + sign], ["..", "." + sign], [sign * 2, ".."], ["#" + sign]):
                self.refused(rows)

    def test_rows_that_are_no_strings(self):
        for thing in odd_things() + [1, (".",), ["."], b".", 0]:
            for rows in ([thing], [".", thing], [thing, "."], [".", ".", thing]):
                kept = list(rows)
                self.refused(rows)
                self.assertEqual([id(one) for one in rows], [id(one) for one in kept])

    def test_many_followers(self):
        with soon():
            values = new_values()
            parts_make_the_board(self, values, Floor(["....", "....", "...."]))
            parts_make_the_board(self, values, Floor(["..#...", "..#.#.", ".##..."]))


if __name__ == "__main__":
    unittest.main()
