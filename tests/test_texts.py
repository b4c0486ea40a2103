"""Points 9.1 to 9.4: texts of games."""

import random
import unittest

from sumsplay.dyadic import Dyadic
from sumsplay.errors import BadText, Unknown
from sumsplay.texts import read_game, write_game
from tests.anew import Anew, dyadic, fraction, new_values, numbers_of_age
from tests.texts_anew import chosen_text, game_told, height_told, told_anew, text_anew
from tests.worked import heap_games, low_games, mixed_games, odd_things, row_games, shape, soon, unknown_numbers

SIGNS = "0123456789/*^(){}|,+- x\n\t.&"
BAD = (
    "", "+", "-", "*", "^^", "/", ",", "|", "{", "}", "(", ")", "()", "{}", "{|", "|}", "{1}", "{1|1", "1|1", "1|1}", "(1", "1)",
    "((1)", "(1))", "(1,1)", "1,1", "{||}", "{1||1}", "{,|}", "{|,}", "{1,|}", "{,1|}", "{1,,1|}", "{|1,}", "(|)", "(1|1)",
    "{(1|1)}", "{1|1)", "(1}", "[1]", "<1>", "+1", "1+", "1-", "1++1", "1-+1", "-+1", "+-1", "(+1)", "{+1|}", "1 ", " 1", "1 +1",
    "1\n", "\n1", "\t1", "1\t", "{ |}", "{| }", "{1| 1}", "(1 )", "* 1", "- 1", "*-1", "*+1", "*^", "*(1)", "*{|}", "**1", "*x",
    "*41", "*42", "*99", "*100", "*400", "*01", "*00", "*040", "*1/2", "*1.0", "*1*1", "*12*1", "65", "66", "99", "100", "129/2",
    "1000", "1000000000000", "10000000000000", "9" * 300, "1/8192", "3/8192", "1/16384", "1/1099511627776", "262145/4096",
    "2/4", "3/6", "2/2", "4/2", "1/1", "3/1", "0/2", "0/1", "1/3", "1/6", "1/0", "0/0", "1/", "/2", "1/2/2", "1/-2", "1//2", "1/02",
    "01", "00", "007", "01/2", "1/2.0", "1.5", ".5", "1e1", "0x1", "1_0", "up", "star", "x", "1x", "x1", "^1", "1^", "1*", "1*1",
    "*1^", "^*1", "1(1)", "(1)1", "(1)(1)", "{|}{|}", "{|}1", "1{|}", "(1)^", "v", "!", "1!", "1;1", "1=1", "'1'", '"1"', "1,", ",1",
)


def around(text, chance, count):
    """Texts with one character put in, taken out or exchanged."""
    for _ in range(count):
        at = chance.randint(0, len(text))
        end = min(len(text), at + chance.choice((0, 1)))
        yield text[:at] + chance.choice(("", *SIGNS)) + text[end:]


class WriteTest(unittest.TestCase):
    def test_numbers(self):
        values = new_values()
        for number in numbers_of_age(6):
            self.assertEqual(write_game(values, values.form(dyadic(number))), str(number))
        for top, power in ((64, 0), (-64, 0), (63 * 4096 + 1, 12), (1, 12), (-4095, 12)):
            self.assertEqual(write_game(values, values.number(Dyadic(top, power))), Dyadic(top, power).text())
        # Games that are alike to numbers have the texts of these, also of such as no text tells.
        row = row_games(values.yard, 99)
        self.assertEqual([write_game(values, game) for game in row], [str(size) for size in range(100)])
        half = values.number(Dyadic(1, 12))
        self.assertEqual(write_game(values, values.yard.game([0], [half])), "1/8192")
        self.assertEqual(write_game(values, values.yard.game([half], [])), "1")
        star = values.heap(1)
        self.assertEqual(write_game(values, values.yard.game([star], [star])), "0")

    def test_heaps(self):
        values = new_values()
        heaps = heap_games(values.yard, 43)
        self.assertEqual([write_game(values, game) for game in heaps[:41]], ["0"] + [f"*{size}" for size in range(1, 41)])
        self.assertEqual(write_game(values, values.sums.plus(heaps[6], heaps[3])), "*5")
        # Greater heaps are games like others.
        options = ",".join(sorted(["0"] + [f"*{size}" for size in range(1, 41)]))
        text = write_game(values, heaps[41])
        self.assertEqual(text, "{" + options + "|" + options + "}")
        more = ",".join(sorted(["0", text] + [f"*{size}" for size in range(1, 41)]))
        self.assertEqual(write_game(values, heaps[42]), "{" + more + "|" + more + "}")

    def test_named_games(self):
        values = new_values()
        yard = values.yard
        one, half = values.number(Dyadic(1)), values.number(Dyadic(1, 1))
        star, two = values.heap(1), values.heap(2)
        minus = yard.turned(one)
        for lefts, rights, text in (
            ([0], [star], "{0|*1}"), ([star], [0], "{*1|0}"), ([one], [minus], "{1|-1}"), ([half, one], [0], "{1|0}"),
            ([one], [one], "{1|1}"), ([two, 0], [minus, star], "{*2,0|-1}"), ([0, star], [two, 0], "{*1,0|*2,0}"),
            ([star, values.number(Dyadic(2))], [minus], "{2|-1}"), ([0], [yard.game([0], [minus])], "{0|{0|-1}}"),
            ([0, star], [0], "{*1,0|0}"), ([], [0], "-1"), ([star], [], "0"),
        ):
            self.assertEqual(write_game(values, yard.game(lefts, rights)), text)
        self.assertEqual(write_game(values, values.up(2)), "{0|{*1,0|0}}")

    def test_options_stand_in_the_order_of_their_texts(self):
        values = new_values()
        yard = values.yard
        heaps = [values.heap(size) for size in range(13)]
        switch = yard.game([values.number(Dyadic(3))], [values.number(Dyadic(-3))])
        minus = values.number(Dyadic(-9))
        # The star stands before the digits, these before the braces.
        self.assertEqual(write_game(values, yard.game([switch] + heaps, [minus])),
                         "{*1,*10,*11,*12,*2,*3,*4,*5,*6,*7,*8,*9,0,{3|-3}|-9}")
        tens = [values.number(Dyadic(top)) for top in (10, 9)]
        self.assertEqual(write_game(values, yard.game([yard.game([tens[0]], [0]), yard.game([tens[1]], [values.number(Dyadic(1))])],
                                                      [minus])), "{{10|0},{9|1}|-9}")

    def test_texts_by_the_words_of_the_document(self):
        values = new_values()
        anew = Anew(values.yard)
        chance = random.Random(1)
        games = low_games(values.yard) + mixed_games(values.yard, chance, 40, 2)
        for game in games:
            if values.yard.height(game) <= 4:
                self.assertEqual(write_game(values, game), text_anew(anew, game, chance))

    def test_alike_games_have_the_same_text_and_others_have_not(self):
        values = new_values()
        games = low_games(values.yard) + mixed_games(values.yard, random.Random(2), 60)
        texts = [write_game(values, game) for game in games]
        anew = Anew(values.yard)
        for one, text in zip(games, texts):
            for other, other_text in zip(games, texts):
                if one <= other:
                    self.assertEqual(text == other_text, anew.alike(one, other))

    def test_unknown_games(self):
        values = new_values()
        values.heap(3)
        size = values.yard.size
        for game in unknown_numbers(values.yard):
            with self.assertRaises(Unknown):
                write_game(values, game)
        self.assertEqual(values.yard.size, size)

    def test_asked_again_and_in_two_yards_by_turns(self):
        values, other = new_values(), new_values()
        # The numbers of the games are others in the other yard.
        other.heap(5)
        chance = random.Random(3)
        games = mixed_games(values.yard, random.Random(4), 80)
        others = mixed_games(other.yard, random.Random(4), 80)
        texts = {}
        for _ in range(3):
            for at in chance.sample(range(80), 80):
                first = write_game(values, games[at])
                self.assertEqual(write_game(other, others[at]), first)
                self.assertEqual(texts.setdefault(at, first), first)
                values.yard.game([games[at]], [chance.choice(games)])
        self.assertNotEqual(games, others)

    def test_great_games(self):
        with soon():
            values = new_values()
            values.up(12, 40)
            text = write_game(values, read_game(values, "^+" * 49 + "^"))
            self.assertEqual(text, "{0|" * 49 + "{*1,0|0}" + "}" * 49)
            self.assertEqual(write_game(values, read_game(values, "+".join(["1/4096"] * 6))), "3/2048")


class ReadTest(unittest.TestCase):
    def check(self, values, text):
        """A text is read as its words tell, or refused; tells whether it was read."""
        told = told_anew(text)
        if told is None:
            with self.assertRaises(BadText, msg=text):
                read_game(values, text)
            return False
        if height_told(told) <= 12:
            self.assertEqual(read_game(values, text), game_told(values.yard, told), text)
        return True

    def test_numbers(self):
        values = new_values()
        for number in numbers_of_age(6):
            text = str(number)
            self.assertEqual(read_game(values, text), values.number(dyadic(number)))
        for text in ("64", "0", "1/4096", "262143/4096", "127/2", "63", "32767/512", "4095/4096"):
            self.assertEqual(read_game(values, text), values.number(Dyadic.from_text(text)))
        for text in ("-64", "-1/4096", "-0", "--1", "---3/4", "-" * 398 + "12", "-" * 399 + "1"):
            sign = -1 if text.count("-") % 2 else 1
            number = sign * fraction(Dyadic.from_text(text.strip("-")))
            self.assertEqual(read_game(values, text), values.number(dyadic(number)))

    def test_heaps_and_ups(self):
        values = new_values()
        heaps = heap_games(values.yard, 40)
        for size in range(41):
            self.assertEqual(read_game(values, f"*{size}"), heaps[size])
            self.assertEqual(read_game(values, f"-*{size}"), heaps[size])
        self.assertEqual(read_game(values, "^"), values.up(1))
        self.assertEqual(read_game(values, "-^"), values.yard.turned(values.up(1)))

    def test_sums_are_not_made_simpler(self):
        values = new_values()
        yard = values.yard
        one, star = yard.game([0], []), yard.game([0], [0])
        self.assertEqual(read_game(values, "1+*1"), yard.game([star, one], [one]))
        self.assertEqual(read_game(values, "*1+*1"), yard.game([star], [star]))
        self.assertEqual(read_game(values, "1-1"), yard.game([yard.turned(one)], [one]))
        self.assertEqual(read_game(values, "(1-1)"), yard.game([yard.turned(one)], [one]))
        self.assertEqual(read_game(values, "1--1"), read_game(values, "1+1"))
        self.assertEqual(read_game(values, "1+-1"), read_game(values, "1-1"))
        self.assertEqual(read_game(values, "-(1-*1)"), read_game(values, "*1-1"))
        self.assertEqual(read_game(values, "1-(1-1)"), values.sums.total([one, one, yard.turned(one)]))
        self.assertEqual(read_game(values, "{1+1,0|}"), yard.game([0, values.number(Dyadic(2))], []))

    def test_options(self):
        values = new_values()
        yard = values.yard
        one = values.number(Dyadic(1))
        self.assertEqual(read_game(values, "{|}"), 0)
        self.assertEqual(read_game(values, "{0|}"), one)
        self.assertEqual(read_game(values, "{|0}"), yard.game([], [0]))
        self.assertEqual(read_game(values, "{1,0,1|*1,1,1}"), yard.game([0, one], [one, values.heap(1)]))
        for count in range(9):
            heaps = [f"*{size}" for size in range(count)]
            games = heap_games(yard, 8)[:count]
            self.assertEqual(read_game(values, "{" + ",".join(heaps) + "|}"), yard.game(games, []))
            self.assertEqual(read_game(values, "{|" + ",".join(heaps) + "}"), yard.game([], games))
            self.assertEqual(read_game(values, "{" + ",".join(heaps) + "|" + ",".join(heaps) + "}"), yard.game(games, games))
            self.assertEqual(read_game(values, "{" + ",".join(["0"] * count) + "|}"), one if count else 0)
        for count in (9, 10, 50):
            many = ",".join(["0"] * count)
            for text in ("{" + many + "|}", "{|" + many + "}", "{0|{" + many + "|0}}", "1+{" + many + "|0}"):
                with self.assertRaises(BadText):
                    read_game(values, text)

    def test_brackets_within_one_another(self):
        values = new_values()
        one = values.number(Dyadic(1))
        for count in range(1, 13):
            self.assertEqual(read_game(values, "(" * count + "1" + ")" * count), one)
            self.assertEqual(read_game(values, "{" * count + "|}" * count), values.form(Dyadic(count - 1)))
            self.assertEqual(read_game(values, "{|" * count + "}" * count), values.form(Dyadic(1 - count)))
        mixed = "({({({({({({1|})|})|})|})|})|})"
        self.assertEqual(read_game(values, mixed), values.form(Dyadic(7)))
        for text in ("(" * 13 + "1" + ")" * 13, "{" * 13 + "|}" * 13, "{|" * 13 + "}" * 13, "(" + mixed + ")", "{" + mixed + "|}",
                     "{0|" + mixed + "}", "1+(0+" + mixed + ")", "(" * 400, "{" * 400, "(" * 200 + ")" * 200):
            with self.assertRaises(BadText):
                read_game(values, text)
        # Brackets beside one another do not count, however many there are.
        self.assertEqual(read_game(values, "+".join(["(0)"] * 100)), 0)
        self.assertEqual(read_game(values, mixed + "-" + mixed + "+(" + mixed[1:-1] + ")"),
                         values.sums.total([values.form(Dyadic(top)) for top in (7, -7, 7)]))

    def test_lengths(self):
        values = new_values()
        for text in ("+".join(["0"] * 200) + "+", "-" * 399, "(0)+" * 100, "0+" * 199 + "1+"):
            self.assertLessEqual(len(text), 400)
            with self.assertRaises(BadText):
                read_game(values, text)
        zeros = "0+" * 198
        self.assertEqual(read_game(values, zeros + "1/16"[:4]), values.number(Dyadic(1, 4)))
        self.assertEqual(len(zeros + "1/16"), 400)
        for text in (zeros + "1/128", "0+" * 200 + "1", "-" * 400 + "1", "(" * 4 + zeros + "0" + ")" * 4):
            self.assertGreater(len(text), 400)
            with self.assertRaises(BadText):
                read_game(values, text)

    def test_texts_by_the_words_of_the_document(self):
        values = new_values()
        chance = random.Random(5)
        for _ in range(400):
            text = chosen_text(chance, 2)
            self.assertLess(len(text), 400)
            self.assertTrue(self.check(values, text), text)

    def test_texts_with_a_change(self):
        values = new_values()
        chance = random.Random(6)
        read = refused = 0
        for _ in range(250):
            text = chosen_text(chance, 2)
            for other in around(text, chance, 12):
                if self.check(values, other):
                    read += 1
                else:
                    refused += 1
        self.assertGreater(read, 300)
        self.assertGreater(refused, 1500)

    def test_short_texts(self):
        values = new_values()
        chance = random.Random(7)
        for _ in range(4000):
            self.check(values, "".join(chance.choice("01249/*^(){}|,+-") for _ in range(chance.randint(0, 6))))

    def test_what_is_no_text(self):
        values = new_values()
        game = read_game(values, "{1|-1}+^")
        size, told = values.yard.size, shape(values.yard, game)
        for text in BAD:
            self.assertIsNone(told_anew(text) if len(text) < 100 else None, text)
            with self.assertRaises(BadText, msg=text):
                read_game(values, text)
        # Nothing is made of a text before all of it is read.
        self.assertEqual(values.yard.size, size)
        self.assertEqual(shape(values.yard, game), told)
        self.assertEqual(read_game(values, "{1|-1}+^"), game)

    def test_what_is_no_string(self):
        values = new_values()

        class Text(str):
            pass

        for thing in (*odd_things(), 1, 0, ["1"], ("1",), {"1": 1}, {"1"}, b"1", iter("1"), Dyadic(1), values, Text("1")):
            with self.assertRaises(BadText):
                read_game(values, thing)

    def test_great_games_in_what_is_no_text(self):
        with soon(20):
            values = new_values()
            for text in ("+".join(["*40"] * 90) + "+x", "+".join(["(64-{*40|*39})"] * 20) + "+", "+".join(["63/64"] * 60) + ",1"):
                with self.assertRaises(BadText):
                    read_game(values, text)

    def test_the_text_of_a_game_tells_its_simplest_form(self):
        values, other = new_values(), new_values()
        games = low_games(values.yard) + mixed_games(values.yard, random.Random(8), 150, 2)
        games += [values.up(count, size) for count in range(-12, 13) for size in (0, 1, 2, 5)]
        games += [read_game(values, chosen_text(random.Random(seed), 2)) for seed in range(60)]
        read = 0
        for game in games:
            text, simplest = write_game(values, game), values.forms.simplest(game)
            if len(text) <= 100 and told_anew(text) is not None:
                read += 1
                self.assertEqual(read_game(values, text), simplest)
                self.assertEqual(shape(other.yard, read_game(other, text)), shape(values.yard, simplest))
                self.assertEqual(write_game(other, read_game(other, text)), text)
        self.assertGreater(read, 400)

    def test_asked_again_and_in_other_orders(self):
        chance = random.Random(9)
        texts = [chosen_text(chance, 2) for _ in range(60)]
        values = new_values()
        games = {text: read_game(values, text) for text in texts}
        told = {text: write_game(values, game) for text, game in games.items()}
        other = new_values()
        for text in chance.sample(texts, 60):
            self.assertEqual(read_game(values, text), games[text])
            self.assertEqual(write_game(other, read_game(other, text)), told[text])
            self.assertEqual(write_game(values, games[text]), told[text])


if __name__ == "__main__":
    unittest.main()
