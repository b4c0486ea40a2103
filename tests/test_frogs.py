"""Points 8.1 to 8.3 and 8.7: rows of toads and frogs."""

import itertools
import random
import unittest

from sumsplay.errors import BadValue
from sumsplay.frogs import Frogs
from tests.anew import SIDES, new_values
from tests.board_checks import game_of, moves_once, no_change, parts_make_the_board, parts_of_parts, values_of
from tests.worked import odd_things, soon

# For each side what stands in the row before and behind a move, and where in it the one that moves stands.
PATTERNS = {"left": (("T.", ".T", 0), ("TF.", ".FT", 0)), "right": ((".F", "F.", 1), (".TF", "FT.", 2))}


def all_lines(most):
    return ["".join(signs) for count in range(most + 1) for signs in itertools.product("TF.", repeat=count)]


def some_lines(seed, count, least=0, most=12):
    chance = random.Random(seed)
    return ["".join(chance.choice("TF..") for _ in range(chance.randint(least, most))) for _ in range(count)]


def moves_anew(line, side):
    """The values of the moves by the words of point 8.7."""
    found = []
    for old, new, mover in PATTERNS[side]:
        for at in range(len(line)):
            if line[at:at + len(old)] == old:
                found.append((at + mover, ("frogs", line[:at] + new + line[at + len(old):])))
    return [value for _, value in sorted(found)]


class FrogsTest(unittest.TestCase):
    def test_values(self):
        for line in all_lines(4) + some_lines(1, 200):
            value = Frogs(line).value()
            self.assertEqual(value, ("frogs", line))
            self.assertEqual([type(value), type(value[0]), type(value[1])], [tuple, str, str])
        self.assertEqual(len({Frogs(line).value() for line in all_lines(5)}), len(all_lines(5)))

    def test_moves_in_their_order(self):
        for line in all_lines(6) + some_lines(2, 500, 7):
            board = Frogs(line)
            for side in SIDES:
                self.assertEqual(values_of(board.moves(side)), moves_anew(line, side), line)
        for line in all_lines(4) + some_lines(3, 100, 7):
            moves_once(self, Frogs(line))

    def told(self, line, side):
        return [board.value()[1] for board in Frogs(line).moves(side)]

    def test_steps_and_jumps(self):
        self.assertEqual(self.told("T.T.", "left"), [".TT.", "T..T"])
        self.assertEqual(self.told(".F.F", "right"), ["F..F", ".FF."])
        self.assertEqual(self.told("TF.T.", "left"), [".FTT.", "TF..T"])
        self.assertEqual(self.told(".TF.F", "right"), ["FT..F", ".TFF."])
        # Toads step to the right alone, and frogs to the left.
        self.assertEqual((self.told(".T", "left"), self.told("F.", "right")), ([], []))
        self.assertEqual((self.told("F.", "left"), self.told(".T", "right")), ([], []))

    def test_nobody_jumps_over_two_or_over_their_own(self):
        for line in ("TFF.", "TT", "TTF", "TF", "T", "TFFF."):
            self.assertEqual(self.told(line, "left"), [])
        for line in (".TTF", "FF", "TFF", "TF", "F", ".TTTF"):
            self.assertEqual(self.told(line, "right"), [])
        self.assertEqual(self.told("TT.", "left"), ["T.T"])
        self.assertEqual(self.told(".FF", "right"), ["F.F"])
        self.assertEqual(self.told("TTF.", "left"), ["T.FT"])
        self.assertEqual(self.told(".TFF", "right"), ["FT.F"])

    def test_both_ends_of_the_row(self):
        self.assertEqual(self.told("." * 10 + "T.", "left"), ["." * 11 + "T"])
        self.assertEqual(self.told("." * 9 + "TF.", "left"), ["." * 10 + "FT"])
        self.assertEqual(self.told("." * 10 + "TF", "left"), [])
        self.assertEqual(self.told("." * 11 + "T", "left"), [])
        self.assertEqual(self.told(".F" + "." * 10, "right"), ["F" + "." * 11])
        self.assertEqual(self.told(".TF" + "." * 9, "right"), ["FT" + "." * 10])
        self.assertEqual(self.told("TF" + "." * 10, "right"), [])
        self.assertEqual(self.told("F" + "." * 11, "right"), [])
        self.assertEqual((self.told("", "left"), self.told("", "right")), ([], []))

    def test_parts(self):
        alone = 0
        for line in all_lines(6) + some_lines(4, 200, 7):
            board = Frogs(line)
            can_move = bool(moves_anew(line, "left") or moves_anew(line, "right"))
            alone += not can_move
            self.assertEqual(values_of(board.parts()), [("frogs", line)] if can_move else [])
            self.assertIs(type(board.parts()), list)
            parts_of_parts(self, board)
        self.assertGreater(alone, 100)
        # One side alone can move.
        self.assertEqual(values_of(Frogs("T.").parts()), [("frogs", "T.")])
        self.assertEqual(values_of(Frogs(".F").parts()), [("frogs", ".F")])

    def test_the_game(self):
        values = new_values()
        for line in all_lines(4) + some_lines(5, 40, 5, 9):
            parts_make_the_board(self, values, Frogs(line))

    def test_named_games(self):
        values = new_values()
        yard = values.yard
        for count in range(12):
            self.assertEqual(values.number_of(game_of(yard, Frogs("T" + "." * count))).text(), str(count))
            self.assertEqual(values.number_of(game_of(yard, Frogs("." * count + "F"))).text(), str(-count))
        self.assertEqual(values.heap_of(game_of(yard, Frogs("T.F"))), 1)
        self.assertEqual(game_of(yard, Frogs("TF")), 0)
        # Behind the only jump of the toad, the frog has one step left.
        minus = yard.game([], [0])
        self.assertEqual(game_of(yard, Frogs("TF.")), yard.game([minus], []))

    def test_turned_rows(self):
        values = new_values()
        for line in some_lines(6, 40, 2, 8):
            other = line[::-1].translate(str.maketrans("TF", "FT"))
            self.assertEqual(game_of(values.yard, Frogs(other)), values.yard.turned(game_of(values.yard, Frogs(line))))

    def test_no_change(self):
        for line in some_lines(7, 40):
            no_change(self, lambda signs: Frogs("".join(signs)), list(line))

    def refused(self, thing):
        with self.assertRaises(BadValue):
            Frogs(thing)

    def test_lengths(self):
        for sign in "TF.":
            self.assertEqual(Frogs(sign * 12).value(), ("frogs", sign * 12))
            for count in (13, 14, 100, 10 ** 6):
                self.refused(sign * count)
        self.assertEqual(Frogs("").value(), ("frogs", ""))

    def test_other_characters(self):
        for sign in ("t", "f", " ", "\n", "\t", "0", ",", "#", "*", "-", "x", "~", "TX", "L"):
            for line in (sign, sign + "T.F", "T.F" + sign, "T." + sign + "F", sign * 2, sign * 12):
                self.refused(line)

    def test_what_is_no_string(self):
        for thing in odd_things():
            self.refused(thing)
        for thing in (0, 1, ["T", ".", "F"], ("T", "."), ["T.F"], ("T.F",), b"T.F", {"T": 1}, {"T"}, iter("T.F"), Frogs("")):
            self.refused(thing)

    def test_many_followers(self):
        with soon():
            values = new_values()
            for line in ("TTTT..FFFF", "TTT...FFF", "TTTTT.FFFFF", "T.T.T.F.F.F"):
                parts_make_the_board(self, values, Frogs(line))


if __name__ == "__main__":
    unittest.main()
