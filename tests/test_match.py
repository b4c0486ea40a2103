"""Points 9.10 and 9.11: matches."""

import random
import unittest

from sumsplay.cake import Cakes
from sumsplay.errors import BadValue, NoMove
from sumsplay.frogs import Frogs
from sumsplay.heaps import Heaps
from sumsplay.match import Match
from sumsplay.meeting import Meeting
from tests.anew import SIDES, foe
from tests.test_meeting import moves_anew, some_meetings, told_moves
from tests.values_anew import changed, check_values, is_meeting_value, is_tuple, is_whole, nested
from tests.worked import odd_things

FAR_INDEXES = (-1, -2, -100, 1000, 10 ** 9, 10 ** 30, -(10 ** 30), 10 ** 5000)


def is_match_value(value):
    """Whether any Python object is the value of a match, by the words of points 9.10 and 9.11."""
    if not is_tuple(value, 3) or not is_meeting_value(value[0]) or type(value[2]) is not tuple:
        return False
    if type(value[1]) is not str or value[1] not in SIDES:
        return False
    boards, side = Meeting.from_value(value[0]).boards(), value[1]
    for index in value[2]:
        moves = [(place, other) for place, board in enumerate(boards) for other in board.moves(side)]
        if not is_whole(index, 0, len(moves) - 1):
            return False
        place, board = moves[index]
        boards[place] = board
        side = foe(side)
    return True


def all_told(match):
    """All that a match tells."""
    return (match.value(), match.turn, match.meeting.value(), told_moves(match.moves()), match.winner(), match.record())


def played(seed, boards, most=100):
    """A match with moves by chance."""
    chance = random.Random(seed)
    match = Match(Meeting(boards), chance.choice(SIDES))
    for _ in range(chance.randint(0, most)):
        if match.moves():
            match.play(chance.randrange(len(match.moves())))
    return match


def some_matches(seed, count, most=4, plays=6):
    return [played(seed + at, boards, plays) for at, boards in enumerate(some_meetings(seed, count, most))]


class MatchTest(unittest.TestCase):
    def test_the_beginning(self):
        for boards in some_meetings(1, 30):
            for side in SIDES:
                meeting = Meeting(boards)
                match = Match(meeting, side)
                self.assertEqual((match.turn, match.record(), match.meeting.value()), (side, [], meeting.value()))
                self.assertEqual(match.value(), (meeting.value(), side, ()))
                self.assertIs(type(match.meeting), Meeting)
                self.assertEqual(told_moves(match.moves()), moves_anew(boards, side))
                self.assertEqual(match.winner(), None if moves_anew(boards, side) else foe(side))

    def test_moves_played_and_taken_back(self):
        chance = random.Random(2)
        for boards in some_meetings(2, 40, 4):
            match = Match(Meeting(boards), chance.choice(SIDES))
            first, boards, record, before = match.turn, list(boards), [], []
            for _ in range(60):
                turn = first if len(record) % 2 == 0 else foe(first)
                moves = [(place, other) for place, board in enumerate(boards) for other in board.moves(turn)]
                self.assertEqual((match.turn, match.record()), (turn, record))
                self.assertEqual(told_moves(match.moves()), [(place, other.value()) for place, other in moves])
                self.assertEqual(match.winner(), None if moves else foe(turn))
                self.assertEqual(match.meeting.value(), tuple(board.value() for board in boards))
                if record and chance.random() < 0.3:
                    self.assertIsNone(match.back())
                    record.pop()
                    boards, told = before.pop()
                    self.assertEqual(all_told(match), told)
                elif moves:
                    before.append((list(boards), all_told(match)))
                    index = chance.randrange(len(moves))
                    self.assertIsNone(match.play(index))
                    record.append(index)
                    boards[moves[index][0]] = moves[index][1]

    def test_a_named_match(self):
        match = Match(Meeting([Heaps([2]), Frogs("T.F")]), "right")
        match.play(2)
        self.assertEqual(match.meeting.value(), (("heaps", (2,)), ("frogs", "TF.")))
        self.assertEqual((match.turn, match.record(), match.winner()), ("left", [2], None))
        match.play(1)
        match.back()
        match.play(0)
        self.assertEqual(match.record(), [2, 0])
        match.play(0)
        match.play(0)
        self.assertEqual(match.value(), ((("heaps", (2,)), ("frogs", "T.F")), "right", (2, 0, 0, 0)))
        self.assertEqual(match.meeting.value(), (("heaps", (0,)), ("frogs", ".FT")))
        self.assertEqual((match.turn, match.winner()), ("right", None))
        match.play(0)
        self.assertEqual((match.turn, match.winner(), match.moves()), ("left", "right", []))
        for _ in range(5):
            match.back()
        self.assertEqual(match.value(), ((("heaps", (2,)), ("frogs", "T.F")), "right", ()))

    def test_nobody_wins_before_the_end(self):
        for match in some_matches(3, 60, 3, 100):
            moves = match.moves()
            self.assertEqual(match.winner(), None if moves else foe(match.turn))
            while match.moves():
                self.assertIsNone(match.winner())
                match.play(len(match.moves()) - 1)
            self.assertEqual(match.winner(), foe(match.turn))

    def test_the_side_that_cannot_move_has_lost(self):
        # It does not matter whether the other side could move.
        for boards, side, winner in (([], "left", "right"), ([], "right", "left"), ([Cakes([(1, 2)])], "right", "left"),
                                     ([Cakes([(2, 1)])], "left", "right"), ([Cakes([(1, 2)])], "left", None)):
            self.assertEqual(Match(Meeting(boards), side).winner(), winner)

    def test_indexes_that_are_none(self):
        for match in some_matches(4, 40):
            told = all_told(match)
            count = len(match.moves())
            for index in (*FAR_INDEXES, count, count + 1, -count, -count - 1, True, False):
                if index is True or index is False or not 0 <= index < count:
                    with self.assertRaises(NoMove):
                        match.play(index)
            self.assertEqual(all_told(match), told)

    def test_taking_back_at_the_beginning(self):
        for match in some_matches(5, 40):
            while match.record():
                match.back()
            told = all_told(match)
            for _ in range(3):
                with self.assertRaises(NoMove):
                    match.back()
                self.assertEqual(all_told(match), told)

    def test_after_the_end(self):
        match = Match(Meeting([Heaps([1])]), "left")
        match.play(0)
        told = all_told(match)
        for index in (0, 1, -1):
            with self.assertRaises(NoMove):
                match.play(index)
        self.assertEqual(all_told(match), told)
        self.assertEqual((match.winner(), match.turn), ("left", "right"))
        match.back()
        self.assertEqual((match.winner(), match.turn), (None, "left"))

    def test_other_first_sides(self):
        meeting = Meeting([Heaps([1])])
        for first in ("", "Left", "LEFT", "left ", " right", "first", "second", "l", "both", "leftright", "\n", "right\n"):
            with self.assertRaises(BadValue):
                Match(meeting, first)
        for first in odd_things():
            with self.assertRaises(BadValue):
                Match(meeting, first)

    def test_what_is_told_may_be_changed(self):
        for match in some_matches(6, 30):
            told = all_told(match)
            match.record().append(0)
            match.record().clear()
            match.moves().clear()
            match.meeting.boards().clear()
            match.meeting.moves("left").append(None)
            self.assertIsNot(match.record(), match.record())
            self.assertIsNot(match.moves(), match.moves())
            self.assertEqual(all_told(match), told)

    def test_matches_with_the_same_meeting(self):
        meeting = Meeting([Heaps([2, 2]), Frogs("T.F")])
        value = meeting.value()
        one, other = Match(meeting, "left"), Match(meeting, "left")
        told = all_told(other)
        held = one.meeting
        one.play(0)
        one.play(1)
        self.assertEqual(all_told(other), told)
        self.assertEqual((meeting.value(), held.value()), (value, value))


class MatchValueTest(unittest.TestCase):
    def checked(self, values):
        return check_values(self, Match.from_value, BadValue, lambda match: match.value(), is_match_value, values)

    def test_values_are_read(self):
        for match in some_matches(7, 60, 4, 20):
            value = match.value()
            self.assertEqual([type(part) for part in value], [tuple, str, tuple])
            self.assertEqual(list(value[2]), match.record())
            self.assertTrue(is_match_value(value))
            read = Match.from_value(value)
            self.assertIs(type(read), Match)
            self.assertEqual(all_told(read), all_told(match))
            while read.record():
                read.back()
                match.back()
                self.assertEqual(all_told(read), all_told(match))

    def test_values_with_one_change(self):
        refused = 0
        for match in some_matches(8, 12, 2):
            refused += self.checked(changed(match.value()))
        self.assertGreater(refused, 2000)

    def test_indexes_with_a_change(self):
        for match in some_matches(9, 60, 3, 20):
            meeting, first, indexes = match.value()
            for at in range(len(indexes) + 1):
                for index in (*FAR_INDEXES, *range(12), True, False, None, "0", (0,), 0.0):
                    self.checked([(meeting, first, indexes[:at] + (index,) + indexes[at + 1:]),
                                  (meeting, first, indexes[:at] + (index,) + indexes[at:])])
            self.checked([(meeting, side, indexes) for side in ("left", "right", "", "Left", 0, None, ("left",), True)])
            self.checked([(meeting, first), (meeting, indexes), (first, meeting, indexes), (meeting, first, list(indexes)),
                          (list(meeting), first, indexes), [meeting, first, indexes], (meeting, first, indexes, ()),
                          (meeting, first, indexes, 0), (meeting, indexes, first), (meeting,), (meeting, first, indexes * 2)])

    def test_things_nested_deep(self):
        for match in some_matches(10, 6, 2):
            value = match.value()
            self.checked(nested(value))
            for at in range(3):
                for new in nested(value[at]):
                    self.checked([value[:at] + (new,) + value[at + 1:]])

    def test_other_objects(self):
        match = Match(Meeting([]), "left")
        things = [*odd_things(), 0, 1, "", "left", match, (match,), Meeting([]), ((), "left", []), ((), "left"), ((), "left", (0,)),
                  ([], "left", ()), ((), "middle", ()), ((), ("left",), ()), ("left", (), ()), ((Meeting([]),), "left", ()),
                  (Meeting([]), "left", ()), ((), "left", ((),)), (((),), "left", ()), ((), "left", "")]
        self.assertEqual(self.checked(things), len(things))
        self.assertEqual(self.checked([((), "left", ()), ((), "right", ())]), 0)

    def test_what_a_value_was_made_from_is_apart(self):
        for match in some_matches(11, 30):
            read = Match.from_value(match.value())
            told = all_told(match)
            if read.moves():
                read.play(0)
            while read.record():
                read.back()
            self.assertEqual(all_told(match), told)
            read = Match.from_value(match.value())
            told = all_told(read)
            while match.record():
                match.back()
            if match.moves():
                match.play(len(match.moves()) - 1)
            self.assertEqual(all_told(read), told)

    def test_it_is_a_static_method(self):
        match = Match(Meeting([Heaps([2])]), "right")
        match.play(0)
        self.assertEqual(match.from_value(match.value()).value(), match.value())
        self.assertEqual(Match.from_value(value=match.value()).record(), [0])


if __name__ == "__main__":
    unittest.main()
