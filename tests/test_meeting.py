"""Points 9.5 and 9.6: meetings."""

import random
import unittest

from sumsplay.boards import is_board
from sumsplay.cake import Cakes
from sumsplay.errors import BadValue
from sumsplay.floor import Floor
from sumsplay.frogs import Frogs
from sumsplay.heaps import Heaps
from sumsplay.hedge import Hedge
from sumsplay.meeting import Meeting
from sumsplay.table import Table
from tests.anew import SIDES
from tests.board_checks import values_of
from tests.test_table import END
from tests.values_anew import KINDS, boards_of_all_kinds, changed, check_values, deep, is_meeting_value, nested
from tests.worked import odd_things


def some_meetings(seed, count, most=8, size=3):
    """Lists of boards."""
    chance = random.Random(seed)
    boards = boards_of_all_kinds(seed, 8, size)
    return [[]] + [[chance.choice(boards) for _ in range(chance.randint(0, most))] for _ in range(count - 1)]


def told_moves(moves):
    return [(place, board.value()) for place, board in moves]


def moves_anew(boards, side):
    """The moves by the words of point 9.5, with the values of the boards."""
    return [(place, other.value()) for place in range(len(boards)) for other in boards[place].moves(side)]


def all_told(meeting):
    return (meeting.value(), values_of(meeting.boards()), *[told_moves(meeting.moves(side)) for side in SIDES])


class MeetingTest(unittest.TestCase):
    def test_boards_and_values(self):
        for boards in some_meetings(1, 60):
            meeting = Meeting(boards)
            self.assertIs(type(meeting.boards()), list)
            self.assertEqual(values_of(meeting.boards()), values_of(boards))
            self.assertTrue(all(is_board(board) for board in meeting.boards()))
            self.assertEqual(meeting.value(), tuple(values_of(boards)))
            self.assertIs(type(meeting.value()), tuple)

    def test_moves_in_their_order(self):
        for boards in some_meetings(2, 60):
            meeting = Meeting(boards)
            for side in SIDES:
                moves = meeting.moves(side)
                self.assertIs(type(moves), list)
                self.assertEqual({(type(move), len(move)) for move in moves} | {(tuple, 2)}, {(tuple, 2)})
                self.assertTrue(all(type(place) is int and is_board(board) for place, board in moves))
                self.assertEqual(told_moves(moves), moves_anew(boards, side))

    def test_a_named_meeting(self):
        meeting = Meeting([Heaps([2]), Hedge([(0, 1, "red")]), Frogs("TF"), Cakes([(1, 2)]), Floor(["."])])
        self.assertEqual(told_moves(meeting.moves("left")),
                         [(0, ("heaps", (1,))), (0, ("heaps", (0,))), (3, ("cakes", ((1, 1), (1, 1))))])
        self.assertEqual(told_moves(meeting.moves("right")),
                         [(0, ("heaps", (1,))), (0, ("heaps", (0,))), (1, ("hedge", ()))])
        self.assertEqual(meeting.value(), (("heaps", (2,)), ("hedge", ((0, 1, "red"),)), ("frogs", "TF"),
                                           ("cakes", ((1, 2),)), ("floor", (".",))))

    def test_the_same_board_at_several_places(self):
        board = Table([((1,), (1,)), END], 0)
        meeting = Meeting([board, board, board])
        self.assertEqual([place for place, _ in meeting.moves("left")], [0, 1, 2])
        moved = meeting.moved(1, meeting.moves("left")[1][1])
        self.assertEqual([value[2] for value in moved.value()], [0, 1, 0])

    def test_moved(self):
        chance = random.Random(3)
        for boards in some_meetings(3, 40):
            meeting = Meeting(boards)
            before = all_told(meeting)
            for side in SIDES:
                for place, board in meeting.moves(side):
                    values = values_of(boards)
                    values[place] = board.value()
                    self.assertEqual(meeting.moved(place, board).value(), tuple(values))
            # The board that is put there may be any one.
            for place in range(len(boards)):
                board = chance.choice(boards_of_all_kinds(3, 1, 3))
                values = values_of(boards)
                values[place] = board.value()
                moved = meeting.moved(place, board)
                self.assertIs(type(moved), Meeting)
                self.assertEqual(all_told(moved), all_told(Meeting.from_value(tuple(values))))
            self.assertEqual(all_told(meeting), before)

    def test_a_meeting_does_not_change(self):
        for boards in some_meetings(4, 30):
            kept = list(boards)
            meeting = Meeting(boards)
            before = all_told(meeting)
            self.assertEqual([id(board) for board in boards], [id(board) for board in kept])
            boards.append(Frogs("T.F"))
            boards.reverse()
            meeting.boards().clear()
            meeting.boards().append(Frogs("T."))
            for side in SIDES:
                meeting.moves(side).clear()
                meeting.moves(side).append(None)
                self.assertIsNot(meeting.moves(side), meeting.moves(side))
            self.assertIsNot(meeting.boards(), meeting.boards())
            for board in meeting.boards():
                board.moves("left").clear()
            self.assertEqual(all_told(meeting), before)
            boards.clear()
            self.assertEqual(all_told(meeting), before)
            self.assertEqual(all_told(Meeting(kept)), before)

    def refused(self, thing):
        with self.assertRaises(BadValue):
            Meeting(thing)

    def test_numbers_of_boards(self):
        board = Heaps([1])
        for count in range(9):
            self.assertEqual(Meeting([board] * count).value(), (("heaps", (1,)),) * count)
        for count in (9, 10, 100, 10 ** 5):
            self.refused([board] * count)
        self.assertEqual([Meeting([]).moves(side) for side in SIDES], [[], []])

    def test_what_is_no_list_of_boards(self):
        board = Heaps([1])
        for thing in odd_things():
            # The empty list is a meeting.
            if type(thing) is not list or len(thing) > 0:
                self.refused(thing)
        for thing in (0, 1, "", "heaps", board, (board,), (board, board), {board: 1}, iter([board]), board.value(), [board].copy,
                      Meeting([board]), (board.value(),)):
            self.refused(thing)

    def test_things_that_are_no_boards(self):
        board = Frogs("T.F")
        for thing in (*odd_things(), *KINDS, 0, 1, "", "T.F", board.value(), [board], (board,), Meeting([board]), (0, board), Meeting):
            for boards in ([thing], [board, thing], [thing, board], [board] * 7 + [thing]):
                kept = list(boards)
                self.refused(boards)
                self.assertEqual([id(one) for one in boards], [id(one) for one in kept])


class MeetingValueTest(unittest.TestCase):
    def checked(self, values):
        return check_values(self, Meeting.from_value, BadValue, lambda meeting: meeting.value(), is_meeting_value, values)

    def test_values_are_read(self):
        for boards in some_meetings(5, 60, size=5):
            meeting = Meeting(boards)
            value = meeting.value()
            read = Meeting.from_value(value)
            self.assertIs(type(read), Meeting)
            self.assertEqual(all_told(read), all_told(meeting))
            self.assertEqual(repr(read.value()), repr(value))
            self.assertTrue(is_meeting_value(value))

    def test_values_with_one_change(self):
        refused = 0
        for boards in some_meetings(6, 15, 3):
            refused += self.checked(changed(Meeting(boards).value()))
        self.assertGreater(refused, 3000)

    def test_things_nested_deep(self):
        for boards in some_meetings(7, 10, 3):
            value = Meeting(boards).value()
            self.checked(nested(value))
            for at, part in enumerate(value):
                for new in nested(part):
                    self.checked([value[:at] + (new,) + value[at + 1:]])
        for depth in range(61):
            self.checked([deep((), depth), deep(("frogs", "T.F"), depth), deep(0, depth), deep("", depth)])

    def test_numbers_of_values(self):
        value = ("frogs", "T.F")
        for count in range(12):
            self.assertEqual(self.checked([(value,) * count]), 1 if count > 8 else 0)

    def test_other_objects(self):
        things = [*odd_things(), 0, 1, "", "frogs", ("frogs", "T.F"), [("frogs", "T.F")], (["frogs", "T.F"],), {("frogs", "T.F")},
                  (Frogs("T.F"),), [Frogs("T.F")], Meeting([]), (Meeting([]),), ((),), ((("frogs", "T.F"),),), iter(()),
                  (("hedge", ((1, 2, "red"),)),)]
        # The empty tuple, which is among the odd things, is the value of the meeting of no boards.
        self.assertEqual(self.checked(things), len(things) - 1)
        self.assertEqual(Meeting.from_value(()).boards(), [])

    def test_it_is_a_static_method(self):
        value = (("heaps", (1, 2)),)
        self.assertEqual(Meeting([]).from_value(value).value(), value)
        self.assertEqual(Meeting.from_value(value=value).value(), value)


if __name__ == "__main__":
    unittest.main()
