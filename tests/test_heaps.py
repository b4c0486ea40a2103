"""Points 8.1 to 8.4: boards of heaps."""

import itertools
import random
import unittest

from sumsplay.errors import BadValue
from sumsplay.heaps import Heaps
from tests.anew import SIDES, new_values
from tests.board_checks import game_of, moves_once, no_change, parts_make_the_board, parts_of_parts, values_of
from tests.worked import heap_games, odd_things, soon

NO_SIZES = (31, -1, 32, -30, 100, 10 ** 30, -(10 ** 30), 10 ** 5000, "1", "", "a")


def chosen_sizes(chance, count=8, most=30):
    return [chance.choice((0, 1, chance.randint(0, most))) for _ in range(chance.randint(0, count))]


class HeapsTest(unittest.TestCase):
    def test_values(self):
        chance = random.Random(1)
        some = [[], [0], [30], [0] * 8, [30] * 8, [1, 1, 1], [3, 0, 3], list(range(8)), list(range(30, 22, -1))]
        for sizes in some + [chosen_sizes(chance) for _ in range(100)]:
            value = Heaps(sizes).value()
            self.assertEqual(value, ("heaps", tuple(sizes)))
            self.assertEqual([type(value), type(value[0]), type(value[1])], [tuple, str, tuple])

    def test_values_are_the_same_exactly_if_the_heaps_are(self):
        lists = [list(sizes) for count in range(4) for sizes in itertools.product(range(3), repeat=count)]
        self.assertEqual(len({Heaps(sizes).value() for sizes in lists}), len(lists))

    def test_moves_in_their_order(self):
        chance = random.Random(2)
        for sizes in [[], [0], [30], [0, 0], [5, 5], [2, 0, 1]] + [chosen_sizes(chance) for _ in range(100)]:
            expected = []
            for place, size in enumerate(sizes):
                for left in reversed(range(size)):
                    expected.append(("heaps", tuple(sizes[:place] + [left] + sizes[place + 1:])))
            board = Heaps(sizes)
            for side in SIDES:
                self.assertEqual(values_of(board.moves(side)), expected)
            moves_once(self, board)

    def test_parts(self):
        chance = random.Random(3)
        for sizes in [[], [0], [0] * 8, [30] * 8, [0, 2, 0, 2]] + [chosen_sizes(chance) for _ in range(100)]:
            board = Heaps(sizes)
            self.assertEqual(values_of(board.parts()), [("heaps", (size,)) for size in sizes if size])
            self.assertIs(type(board.parts()), list)
            parts_of_parts(self, board)

    def test_the_game(self):
        values = new_values()
        heaps = heap_games(values.yard, 30)
        for size in range(31):
            self.assertEqual(game_of(values.yard, Heaps([size])), heaps[size])
            self.assertEqual(game_of(values.yard, Heaps([0, size, 0])), heaps[size])
        self.assertEqual(game_of(values.yard, Heaps([])), 0)
        chance = random.Random(4)
        for _ in range(60):
            sizes = chosen_sizes(chance, 3, 6)
            board = Heaps(sizes)
            parts_make_the_board(self, values, board)
            answer = 0
            for size in sizes:
                answer ^= size
            self.assertEqual(values.heap_of(game_of(values.yard, board)), answer)
            self.assertEqual(game_of(values.yard, board), values.sums.total([heaps[size] for size in sizes]))

    def test_no_change(self):
        chance = random.Random(5)
        for _ in range(30):
            no_change(self, Heaps, chosen_sizes(chance, 8, 9))

    def refused(self, thing):
        with self.assertRaises(BadValue):
            Heaps(thing)

    def test_what_is_no_list_of_heaps(self):
        for thing in odd_things():
            # The empty list and the list of one size are boards.
            if type(thing) is not list:
                self.refused(thing)
        for thing in (1, 0, -1, "", "12", (1, 2), ((),), {1: 2}, {1, 2}, range(3), iter([1]), b"\x01", Heaps([1])):
            self.refused(thing)

    def test_too_many_heaps(self):
        for count in (9, 10, 100):
            self.refused([0] * count)
            self.refused([1] * count)
        self.assertEqual(len(Heaps([1] * 8).parts()), 8)

    def test_sizes_that_are_none(self):
        for thing in (*NO_SIZES, *odd_things()):
            for sizes in ([thing], [thing, 1], [1, 2, thing], [thing] * 8, [0] * 7 + [thing]):
                kept = list(sizes)
                self.refused(sizes)
                self.assertEqual([id(one) for one in sizes], [id(one) for one in kept])

    def test_many_followers(self):
        with soon():
            values = new_values()
            board = Heaps([11, 12, 11])
            game = game_of(values.yard, board)
            self.assertEqual(values.heap_of(game), 12)
            # Boards with the same heaps in another order are the same game.
            sizes = itertools.product(range(12), range(13), range(12))
            self.assertEqual(len(values.yard.followers(game)), len({tuple(sorted(one)) for one in sizes}))
            parts_make_the_board(self, values, Heaps([30, 29]))


if __name__ == "__main__":
    unittest.main()
