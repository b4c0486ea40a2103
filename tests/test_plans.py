"""Points 9.7 to 9.9: the games, winners, plans and judgements of meetings, and points 0.3, 7.9 and 7.10 for them."""

import math
import random
import unittest

from sumsplay.boards import board_of, game_of
from sumsplay.cake import Cakes
from sumsplay.dyadic import Dyadic
from sumsplay.floor import Floor
from sumsplay.frogs import Frogs
from sumsplay.heaps import Heaps
from sumsplay.heat import Heat
from sumsplay.hedge import Hedge
from sumsplay.match import Match
from sumsplay.meeting import Meeting
from sumsplay.plans import Plans
from sumsplay.table import Table
from tests.anew import SIDES, foe, forms_alone, fraction, new_values
from tests.test_hedge import COLOURS
from tests.test_table import END, full_rows
from tests.values_anew import boards_of_all_kinds, reached, turned_board
from tests.worked import beside, shape, soon


def small_meetings(seed, count, most=1000, size=3):
    """Lists of boards from which rows of moves lead to few meetings, and not only to one."""
    chance = random.Random(seed)
    boards = [board for board in boards_of_all_kinds(seed, 12, size, 60) if board.parts()]
    found = []
    while len(found) < count:
        chosen = [chance.choice(boards) for _ in range(chance.randint(1, 4))]
        if math.prod(len(reached(board)) for board in chosen) <= most:
            found.append(chosen)
    return found


class Plays:
    """All plays of meetings, which are told by the tuples of the values of their boards."""

    def __init__(self):
        self.told = {}
        self.wins_known = {}
        self.judged = {}

    def moves(self, values, side):
        """The meetings behind the moves of a side, in their order."""
        found = []
        for place, value in enumerate(values):
            if (value, side) not in self.told:
                self.told[value, side] = [board.value() for board in board_of(value).moves(side)]
            found += [values[:place] + (other,) + values[place + 1:] for other in self.told[value, side]]
        return found

    def wins(self, values, side):
        """Whether a side that is to move wins."""
        if (values, side) not in self.wins_known:
            self.wins_known[values, side] = any(not self.wins(other, foe(side)) for other in self.moves(values, side))
        return self.wins_known[values, side]

    def winner(self, values, first):
        return first if self.wins(values, first) else foe(first)

    def plan(self, values, side):
        for index, other in enumerate(self.moves(values, side)):
            if not self.wins(other, foe(side)):
                return index
        return None

    def judge(self, values, side, turn):
        """Whether the side wins every play in which it plays by its plan and the other one plays anything."""
        key = (values, side, turn)
        if key not in self.judged:
            moves = self.moves(values, turn)
            if turn == side:
                index = self.plan(values, side)
                self.judged[key] = index is not None and self.judge(moves[index], side, foe(turn))
            else:
                self.judged[key] = all([self.judge(other, side, foe(turn)) for other in moves])
        return self.judged[key]


class PlansTest(unittest.TestCase):
    def check(self, plans, plays, meeting):
        """All that is told of a meeting but its game, against all its plays."""
        values = meeting.value()
        for first in SIDES:
            self.assertEqual(plans.winner(meeting, first), plays.winner(values, first), (values, first))
            self.assertEqual(plans.plan(meeting, first), plays.plan(values, first), (values, first))
            for side in SIDES:
                told = plans.judge(meeting, side, first)
                self.assertIs(told, plays.judge(values, side, first), (values, side, first))

    def test_against_all_plays(self):
        plays = Plays()
        for boards in small_meetings(1, 150):
            self.check(Plans(new_values()), plays, Meeting(boards))

    def test_many_meetings_by_one_plans_object(self):
        plans, plays = Plans(new_values()), Plays()
        chance = random.Random(2)
        meetings = small_meetings(2, 80)
        for boards in meetings + meetings[:20]:
            meeting = Meeting(boards)
            self.check(plans, plays, meeting)
            for side in SIDES:
                for place, board in chance.sample(meeting.moves(side), min(3, len(meeting.moves(side)))):
                    self.check(plans, plays, meeting.moved(place, board))

    def test_boards_of_each_kind_alone(self):
        plays = Plays()
        for board in boards_of_all_kinds(3, 15, 4, 300):
            self.check(Plans(new_values()), plays, Meeting([board]))

    def test_both_answers_come_often(self):
        plans = Plans(new_values())
        told = [(plans.winner(Meeting(boards), "left"), plans.winner(Meeting(boards), "right"))
                for boards in small_meetings(1, 150)]
        for left in SIDES:
            for right in SIDES:
                self.assertGreater(told.count((left, right)), 5)

    def test_the_game(self):
        for boards in small_meetings(4, 80):
            values = new_values()
            told = Plans(values).game(Meeting(boards))
            total = 0
            for board in boards:
                total = beside(values.yard, total, game_of(values.yard, board))
            # A Forms object is asked that was not told how the games were made.
            alone = forms_alone(values.yard)
            self.assertEqual(alone.simplest(total), told)
            self.assertIs(alone.is_simplest(told), True)

    def test_the_order_of_the_boards_and_of_questions_does_not_matter(self):
        chance = random.Random(5)
        for boards in small_meetings(5, 30):
            plans, others = Plans(new_values()), Plans(new_values())
            game = plans.game(Meeting(boards))
            for side in chance.sample(SIDES, 2):
                others.plan(Meeting(boards), side)
            for _ in range(3):
                mixed = chance.sample(boards, len(boards))
                self.assertEqual(plans.game(Meeting(mixed)), game)
                self.assertEqual(shape(others.worth.yard, others.game(Meeting(mixed))), shape(plans.worth.yard, game))
                for side in SIDES:
                    self.assertEqual(others.winner(Meeting(mixed), side), plans.winner(Meeting(boards), side))
                    self.assertEqual(others.plan(Meeting(boards), side), plans.plan(Meeting(boards), side))

    def test_the_field_and_plans_of_the_same_values(self):
        values = new_values()
        one, other = Plans(values), Plans(values)
        self.assertIs(one.worth, values)
        for boards in small_meetings(6, 20):
            self.assertEqual(one.game(Meeting(boards)), other.game(Meeting(boards)))
            self.assertEqual(one.game(Meeting(boards)), values.sums.plain([game_of(values.yard, board) for board in boards]))

    def test_the_empty_meeting(self):
        plans = Plans(new_values())
        for meeting in (Meeting([]), Meeting([Heaps([0]), Frogs("TF"), Cakes([]), Floor(["."]), Hedge([]), Table([END], 0)])):
            self.assertEqual(plans.game(meeting), 0)
            for side in SIDES:
                self.assertEqual(plans.winner(meeting, side), foe(side))
                self.assertIsNone(plans.plan(meeting, side))
                self.assertIs(plans.judge(meeting, side, side), False)
                self.assertIs(plans.judge(meeting, side, foe(side)), True)

    def test_a_board_beside_the_same_one_turned(self):
        plans, plays = Plans(new_values()), Plays()
        for board in boards_of_all_kinds(7, 10, 4, 60):
            meeting = Meeting([board, turned_board(board)])
            self.assertEqual(plans.game(meeting), 0)
            self.check(plans, plays, meeting)
            for side in SIDES:
                self.assertEqual(plans.winner(meeting, side), foe(side))
                self.assertIsNone(plans.plan(meeting, side))
                # Whatever one side does, the other one has an answer.
                for place, other in meeting.moves(side):
                    answer = plans.plan(meeting.moved(place, other), foe(side))
                    self.assertIs(type(answer), int)

    def test_named_meetings(self):
        plans = Plans(new_values())
        meeting = Meeting([Heaps([3]), Heaps([5, 1])])
        # 3 xor 5 xor 1 is 7, so that 5 has to become 2: behind the three moves of the first board and two of the 5.
        self.assertEqual([plans.plan(meeting, side) for side in SIDES], [5, 5])
        self.assertEqual(plans.worth.heap_of(plans.game(meeting)), 7)
        ahead = Meeting([Hedge([(0, 1, "blue")]), Frogs("T.F")])
        self.assertEqual([plans.winner(ahead, side) for side in SIDES], ["left", "left"])
        self.assertEqual([plans.plan(ahead, side) for side in SIDES], [1, None])
        self.assertEqual([plans.judge(ahead, "left", side) for side in SIDES], [True, True])
        self.assertEqual([plans.judge(ahead, "right", side) for side in SIDES], [False, False])

    def test_the_first_move_that_wins_is_the_plan(self):
        plans = Plans(new_values())
        # All of the moves win, or some behind others that do not.
        self.assertEqual(plans.plan(Meeting([Cakes([(1, 5)])]), "left"), 0)
        self.assertEqual(plans.plan(Meeting([Heaps([2]), Heaps([2]), Heaps([4])]), "right"), 7)
        self.assertEqual(plans.plan(Meeting([Heaps([1]), Heaps([3])]), "left"), 2)
        later = 0
        for boards in small_meetings(8, 60):
            meeting = Meeting(boards)
            for side in SIDES:
                plan = plans.plan(meeting, side)
                for index, (place, board) in enumerate(meeting.moves(side)[:plan]):
                    self.assertEqual(plans.winner(meeting.moved(place, board), foe(side)), foe(side))
                if plan is not None:
                    later += plan > 0
                    place, board = meeting.moves(side)[plan]
                    self.assertEqual(plans.winner(meeting.moved(place, board), foe(side)), side)
        self.assertGreater(later, 20)

    def test_the_winner_wins_every_play(self):
        plans = Plans(new_values())
        chance = random.Random(9)
        for boards in small_meetings(9, 40, 10 ** 5, 5):
            first = chance.choice(SIDES)
            for _ in range(3):
                match = Match(Meeting(boards), first)
                winner = plans.winner(match.meeting, first)
                while match.winner() is None:
                    if match.turn == winner:
                        match.play(plans.plan(match.meeting, winner))
                    else:
                        self.assertIsNone(plans.plan(match.meeting, match.turn))
                        match.play(chance.randrange(len(match.moves())))
                self.assertEqual(match.winner(), winner)

    def test_meetings_stay_as_they_are(self):
        plans = Plans(new_values())
        for boards in small_meetings(10, 10):
            meeting = Meeting(boards)
            value = meeting.value()
            plans.game(meeting)
            for side in SIDES:
                plans.plan(meeting, side)
                plans.judge(meeting, side, "left")
            self.assertEqual(meeting.value(), value)


class HeatOfMeetingsTest(unittest.TestCase):
    def test_means_add_and_no_sum_is_hotter_than_its_games(self):
        values = new_values()
        plans, heat = Plans(values), Heat(values)
        hot = 0
        for boards in small_meetings(11, 80, 10 ** 6, 5):
            game = plans.game(Meeting(boards))
            games = [game_of(values.yard, board) for board in boards]
            mean = sum(fraction(heat.mean(one)) for one in games)
            self.assertEqual(fraction(heat.mean(game)), mean)
            heats = [fraction(heat.heat(one)) for one in games if heat.heat(one) is not None]
            most = max(heats, default=0)
            hot += most > 0
            if heat.heat(game) is not None:
                self.assertLessEqual(fraction(heat.heat(game)), most)
            # Point 7.10.
            self.assertLessEqual(0, fraction(values.left_stop(game)) - mean)
            self.assertLessEqual(fraction(values.left_stop(game)) - mean, most)
            self.assertLessEqual(0, mean - fraction(values.right_stop(game)))
            self.assertLessEqual(mean - fraction(values.right_stop(game)), most)
        self.assertGreater(hot, 20)

    def test_the_winner_is_told_by_the_outcome(self):
        values = new_values()
        plans, order = Plans(values), values.forms.order
        for boards in small_meetings(12, 60, 10 ** 5, 5):
            meeting = Meeting(boards)
            for side in SIDES:
                self.assertEqual(plans.winner(meeting, side) == side, order.can_win(plans.game(meeting), side))


class GreatMeetingsTest(unittest.TestCase):
    """Boards near the bounds of point 8.10, whose heights are at most 100 together."""

    def told(self, boards):
        with soon(60):
            plans = Plans(new_values())
            meeting = Meeting(boards)
            game = plans.game(meeting)
            order = plans.worth.forms.order
            for side in SIDES:
                winner = plans.winner(meeting, side)
                self.assertEqual(winner == side, order.can_win(game, side))
                plan = plans.plan(meeting, side)
                self.assertEqual(plan is not None, winner == side)
                for first in SIDES:
                    self.assertIs(plans.judge(meeting, side, first), plans.winner(meeting, first) == side)
                if plan is not None:
                    place, board = meeting.moves(side)[plan]
                    self.assertEqual(plans.winner(meeting.moved(place, board), foe(side)), side)
        return plans, game

    def test_heaps(self):
        plans, game = self.told([Heaps([12]), Heaps([13]), Heaps([11, 2]), Heaps([10]), Heaps([12]), Heaps([9, 1]), Heaps([14]), Heaps([15])])
        self.assertEqual(plans.worth.heap_of(game), 12 ^ 13 ^ 11 ^ 2 ^ 10 ^ 12 ^ 9 ^ 1 ^ 14 ^ 15)
        self.told([Heaps([30, 30]), Heaps([20, 20])])

    def test_hedges(self):
        chance = random.Random(1)
        for _ in range(3):
            trees = [Hedge([(chance.randint(max(0, at - 3), at), at + 1, chance.choice(COLOURS)) for at in range(12)])
                     for _ in range(8)]
            self.told(trees)

    def test_floors(self):
        floors = [["....", "....", "...."], [".....", "..#..", "....."], ["#...", "....", "...#", "...."], ["......", "......"],
                  ["...", "...", "...", "..."], ["..#..", "....#", "....."], ["#....", ".....", "..#.."], ["....", ".#..", "...."]]
        for rows in floors:
            self.assertIsNotNone(reached(Floor(rows)))
        self.told([Floor(rows) for rows in floors])

    def test_frogs(self):
        self.told([Frogs("TTTT..FFFF"), Frogs("TTTT..FFFF"), Frogs("TTT..FFFF")])
        self.told([Frogs("TTT..FFF"), Frogs("TT..FFF"), Frogs("TTT..FF"), Frogs("TT..FF"), Frogs("TT.F"), Frogs("T..FF")])

    def test_cakes_and_tables(self):
        plans, game = self.told([Cakes([(1, 11)]), Cakes([(11, 1)]), Cakes([(3, 4)]), Cakes([(2, 5)]), Cakes([(1, 2)] * 10),
                                 Table(full_rows(40), 0)])
        self.assertIs(plans.worth.number_of(game), None)
        self.assertEqual(plans.worth.left_stop(game).text(), Dyadic(12).text())

    def test_hot_tables(self):
        chance = random.Random(2)
        for _ in range(6):
            self.told([hot_table(chance, chance.randint(2, 6), chance.randint(3, 12)) for _ in range(5)])


def hot_table(chance, most, count):
    """A table in which sides move to numbers of a size up to `most` or on to one of `count` places."""
    rows = [((), ())]
    for number in range(most):
        rows.append(((len(rows) - 1 if number else 0,), ()))
    for number in range(most):
        rows.append(((), (len(rows) - 1 if number else 0,)))
    for at in range(count):
        hot = list(range(max(2 * most + 1, len(rows) - 3), len(rows)))
        lefts = {chance.randint(1, most), *chance.sample(hot, min(len(hot), chance.randint(0, 2)))}
        rights = {chance.randint(most + 1, 2 * most), *chance.sample(hot, min(len(hot), chance.randint(0, 2)))}
        rows.append((lefts, rights))
    # The last row comes first, as moves lead to later rows.
    last = len(rows) - 1
    return Table([tuple(tuple(sorted(last - to for to in side)) for side in row) for row in reversed(rows)], 0)


if __name__ == "__main__":
    unittest.main()
