"""Points 8.1 to 8.3 and 8.5: hedges."""

import itertools
import random
import unittest

from sumsplay.dyadic import Dyadic
from sumsplay.errors import BadValue
from sumsplay.hedge import Hedge
from tests.anew import SIDES, new_values
from tests.board_checks import game_of, moves_once, no_change, parts_make_the_board, parts_of_parts, values_of
from tests.worked import odd_things, soon

COLOURS = ("blue", "green", "red")
NO_KNOTS = (-1, 16, 17, -16, 100, 10 ** 30, -(10 ** 30), 10 ** 5000, "0", "", "1")
NO_COLOURS = ("", "Blue", "BLUE", "blu", "blues", " red", "red ", "yellow", "0", 0, 1, -1)


def hanging(edges):
    """Those of the edges that hang on the ground, by the words of point 8.5."""
    held = []
    while True:
        more = [edge for edge in edges if edge not in held and (0 in edge[:2] or any(
            set(edge[:2]) & set(other[:2]) for other in held))]
        if not more:
            return [edge for edge in edges if edge in held]
        held.extend(more)


def moves_anew(edges, side):
    """The values of the moves of a hedge, by the words of points 8.2 and 8.5."""
    found = []
    for at, edge in enumerate(edges):
        if edge[2] == "green" or edge[2] == ("blue" if side == "left" else "red"):
            value = ("hedge", tuple(hanging(edges[:at] + edges[at + 1:])))
            if value not in found:
                found.append(value)
    return found


def parts_anew(edges):
    """The parts as lists of edges, by the words of point 8.5: groups of places are joined as long as any may be."""
    groups = [[place] for place in range(len(edges))]
    joined = True
    while joined:
        joined = False
        for one, other in itertools.combinations(range(len(groups)), 2):
            knots = [set(knot for place in groups[at] for knot in edges[place][:2] if knot > 0) for at in (one, other)]
            if knots[0] & knots[1]:
                groups[one] = sorted(groups[one] + groups[other])
                del groups[other]
                joined = True
                break
    return [[edges[place] for place in group] for group in sorted(groups)]


def chosen_edges(chance, count=16, knots=15):
    return [(chance.randint(0, knots), chance.choice((0, chance.randint(0, knots))), chance.choice(COLOURS))
            for _ in range(chance.randint(0, count))]


def some_lists(seed, count, edges=16, knots=15):
    chance = random.Random(seed)
    return [chosen_edges(chance, chance.randint(0, edges), chance.randint(1, knots)) for _ in range(count)]


class HedgeTest(unittest.TestCase):
    def test_values(self):
        for edges in some_lists(1, 300):
            value = Hedge(edges).value()
            self.assertEqual(value, ("hedge", tuple(hanging(edges))))
            self.assertEqual([type(value), type(value[0]), type(value[1])], [tuple, str, tuple])
            for edge in value[1]:
                self.assertIs(type(edge), tuple)

    def test_edges_that_hang_on_the_ground(self):
        for passed, kept in (
                ([], []),
                ([(1, 2, "red")], []),
                ([(1, 1, "blue")], []),
                ([(0, 0, "blue")], [0]),
                ([(2, 1, "red"), (3, 2, "blue"), (1, 0, "green")], [0, 1, 2]),
                ([(2, 1, "red"), (3, 4, "blue"), (1, 0, "green"), (4, 4, "red")], [0, 2]),
                ([(0, 1, "red"), (1, 1, "red"), (2, 2, "red")], [0, 1]),
                ([(0, 5, "red"), (0, 5, "red"), (5, 0, "red"), (5, 15, "blue")], [0, 1, 2, 3]),
                ([(at + 1, at, "blue") for at in range(14, -1, -1)], list(range(15)))):
            self.assertEqual(Hedge(passed).value(), ("hedge", tuple(passed[at] for at in kept)))

    def test_values_are_the_same_exactly_if_the_hedges_are(self):
        edges = [(0, 1, "blue"), (1, 0, "blue"), (0, 1, "red"), (0, 2, "blue"), (1, 2, "green")]
        lists = [list(some) for count in range(4) for some in itertools.permutations(edges, count)]
        told = [tuple(hanging(some)) for some in lists]
        self.assertEqual(len({Hedge(some).value() for some in lists}), len(set(told)))

    def test_moves_in_their_order(self):
        for edges in some_lists(2, 300):
            board = Hedge(edges)
            for side in SIDES:
                self.assertEqual(values_of(board.moves(side)), moves_anew(hanging(edges), side))
            moves_once(self, board)

    def test_colours(self):
        edges = [(0, 1, "blue"), (0, 2, "green"), (0, 3, "red")]
        board = Hedge(edges)
        self.assertEqual(values_of(board.moves("left")), [("hedge", tuple(edges[1:])), ("hedge", (edges[0], edges[2]))])
        self.assertEqual(values_of(board.moves("right")), [("hedge", (edges[0], edges[2])), ("hedge", tuple(edges[:2]))])

    def test_what_falls_behind_a_cut(self):
        edges = [(1, 2, "red"), (0, 1, "blue"), (2, 3, "red"), (3, 0, "green"), (2, 2, "blue"), (4, 3, "blue")]
        left = values_of(Hedge(edges).moves("left"))
        self.assertEqual(left[0], ("hedge", tuple(edges[:1] + edges[2:])))
        self.assertEqual(left[1], ("hedge", tuple(edges[:3] + edges[4:])))
        chain = [(0, 1, "blue"), (1, 2, "red"), (2, 3, "blue")]
        self.assertEqual(values_of(Hedge(chain).moves("left")), [("hedge", ()), ("hedge", tuple(chain[:2]))])
        self.assertEqual(values_of(Hedge(chain).moves("right")), [("hedge", tuple(chain[:1]))])

    def test_each_value_once(self):
        twice = [(0, 1, "blue"), (0, 1, "blue")]
        self.assertEqual(values_of(Hedge(twice).moves("left")), [("hedge", ((0, 1, "blue"),))])
        self.assertEqual(Hedge(twice).moves("right"), [])
        many = Hedge([(0, 0, "green")] * 16)
        self.assertEqual(values_of(many.moves("left")), [("hedge", ((0, 0, "green"),) * 15)])
        self.assertEqual(values_of(many.moves("right")), [("hedge", ((0, 0, "green"),) * 15)])
        mixed = Hedge([(0, 1, "red"), (0, 1, "blue"), (0, 1, "blue"), (1, 0, "blue")])
        self.assertEqual(len(mixed.moves("left")), 2)

    def test_parts(self):
        several = 0
        for edges in some_lists(3, 300) + some_lists(4, 100, 6, 5):
            board = Hedge(edges)
            expected = parts_anew(hanging(edges))
            several += len(expected) > 2
            self.assertEqual(values_of(board.parts()), [("hedge", tuple(part)) for part in expected])
            self.assertIs(type(board.parts()), list)
            parts_of_parts(self, board)
        self.assertGreater(several, 40)

    def test_parts_and_their_order(self):
        edges = [(0, 3, "red"), (0, 1, "blue"), (3, 4, "blue"), (0, 0, "green"), (1, 2, "red"), (0, 0, "green"),
                 (2, 0, "red"), (0, 4, "green"), (5, 0, "blue"), (5, 5, "red")]
        expected = [[0, 2, 7], [1, 4, 6], [3], [5], [8, 9]]
        self.assertEqual(values_of(Hedge(edges).parts()),
                         [("hedge", tuple(edges[at] for at in part)) for part in expected])
        self.assertEqual(Hedge([]).parts(), [])
        self.assertEqual(Hedge([(1, 2, "red")]).parts(), [])

    def test_the_game(self):
        values = new_values()
        for edges in some_lists(5, 60, 6, 4):
            parts_make_the_board(self, values, Hedge(edges))

    def test_named_games(self):
        values = new_values()
        yard = values.yard
        for count in range(17):
            stalk = [(at, at + 1, "blue") for at in range(min(count, 15))]
            self.assertEqual(values.number_of(game_of(yard, Hedge(stalk))).text(), str(min(count, 15)))
            self.assertEqual(game_of(yard, Hedge([(0, 0, "red")] * count)), values.number(Dyadic(-count)))
        self.assertEqual(values.number_of(game_of(yard, Hedge([(0, 1, "blue"), (1, 2, "red")]))).text(), "1/2")
        self.assertEqual(values.heap_of(game_of(yard, Hedge([(0, 1, "green"), (1, 2, "green")]))), 2)
        self.assertEqual(values.forms.simplest(game_of(yard, Hedge([(0, 1, "green"), (1, 2, "blue")]))), values.up(1, 1))

    def test_no_change(self):
        for edges in some_lists(6, 40, 8, 6):
            no_change(self, Hedge, edges)

    def refused(self, thing):
        with self.assertRaises(BadValue):
            Hedge(thing)

    def test_what_is_no_list_of_edges(self):
        for thing in odd_things():
            # The empty list is a hedge.
            if type(thing) is not list or len(thing) > 0:
                self.refused(thing)
        edge = (0, 1, "blue")
        for thing in (1, "", "red", edge, (edge,), {edge: 1}, {edge}, iter([edge]), Hedge([])):
            self.refused(thing)

    def test_too_many_edges(self):
        for count in (17, 18, 100):
            self.refused([(0, 1, "blue")] * count)
            # Edges that do not hang on the ground count, too.
            self.refused([(0, 1, "blue")] + [(3, 4, "red")] * (count - 1))
        self.assertEqual(len(Hedge([(0, 1, "blue")] * 16).value()[1]), 16)
        self.assertEqual(Hedge([(0, 1, "blue")] + [(3, 4, "red")] * 15).value(), ("hedge", ((0, 1, "blue"),)))

    def test_edges_that_are_none(self):
        good = (0, 1, "blue")
        wrong = [[0, 1, "blue"], (), (0,), (0, 1), (0, 1, "blue", 0), (0, 1, 2), ("blue", 0, 1), (0, "blue", 1),
                 ((0, 1), "blue"), (0, 1, ("blue",)), "01b", 7, None, True, b"01b", good + good]
        wrong += [(thing, 1, "blue") for thing in (*NO_KNOTS, *odd_things())]
        wrong += [(0, thing, "red") for thing in (*NO_KNOTS, *odd_things())]
        wrong += [(0, 1, thing) for thing in (*NO_COLOURS, *odd_things())]
        # It is the same for edges that would not hang on the ground.
        wrong += [(5, thing, "green") for thing in NO_KNOTS] + [(5, 6, thing) for thing in NO_COLOURS]
        wrong += odd_things()
        for edge in wrong:
            for edges in ([edge], [good, edge], [edge, good]):
                kept = list(edges)
                self.refused(edges)
                self.assertEqual([id(one) for one in edges], [id(one) for one in kept])

    def test_many_followers(self):
        with soon():
            values = new_values()
            green = Hedge([(0, 1, "green"), (1, 2, "green"), (1, 3, "green"), (0, 4, "green"), (4, 5, "blue"),
                           (4, 6, "red"), (0, 7, "blue"), (7, 8, "green"), (0, 9, "red"), (9, 10, "red")])
            parts_make_the_board(self, values, green)
            ring = Hedge([(at, (at + 1) % 10, COLOURS[at % 3]) for at in range(10)])
            parts_make_the_board(self, values, ring)


if __name__ == "__main__":
    unittest.main()
