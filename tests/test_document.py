"""The examples of the document as they stand there, and the names, arguments and places of the interface."""

import importlib
import inspect
import unittest

EXAMPLES = {
    "dyadic": '''
>>> from sumsplay.dyadic import Dyadic, simplest_between
>>> (Dyadic(6, 2).top, Dyadic(6, 2).power)
(3, 1)
>>> (Dyadic(3, 2) - Dyadic(5)).text()
'-17/4'
>>> Dyadic(5, 1).age()
4
>>> Dyadic.from_text("-5/8").half().text()
'-5/16'
>>> Dyadic.from_text("2/4")
raises BadText
>>> simplest_between(Dyadic(1, 2), Dyadic(7, 3)).text()
'1/2'
>>> simplest_between(None, Dyadic(-5, 1)).text()
'-3'
''',
    "yard": '''
>>> from sumsplay.yard import Yard
>>> yard = Yard()
>>> one = yard.game([0], [])
>>> two = yard.game([one, 0, one], [])
>>> two == yard.game([0, one], [])
True
>>> yard.lefts(two) == sorted([0, one])
True
>>> yard.height(two)
2
>>> yard.followers(two) == sorted([0, one, two])
True
>>> yard.size
3
>>> yard.rights(yard.turned(one))
[0]
>>> yard.size
4
>>> yard.lefts(-1)
raises Unknown
''',
    "order": '''
>>> from sumsplay.order import Order
>>> from sumsplay.yard import Yard
>>> yard = Yard()
>>> order = Order(yard)
>>> one = yard.game([0], [])
>>> star = yard.game([0], [0])
>>> switch = yard.game([one], [yard.turned(one)])
>>> (order.outcome(0), order.outcome(one), order.outcome(star))
('second', 'left', 'first')
>>> (order.at_least(one, switch), order.at_least(switch, one))
(False, False)
>>> order.less(star, one)
True
>>> order.apart(star, 0)
True
>>> order.alike(yard.game([0, star], [one]), yard.game([0], [one]))
True
>>> order.winning(switch, "right") == [yard.turned(one)]
True
''',
    "forms": '''
>>> from sumsplay.forms import Forms
>>> from sumsplay.order import Order
>>> from sumsplay.yard import Yard
>>> yard = Yard()
>>> forms = Forms(Order(yard))
>>> one = yard.game([0], [])
>>> star = yard.game([0], [0])
>>> game = yard.game([0, one], [])
>>> forms.steps(game)
[('drop', 'left', 0)]
>>> forms.taken(game, ("drop", "left", 0)) == yard.game([one], [])
True
>>> forms.taken(game, ("drop", "left", one))
raises NoMove
>>> other = yard.game([star], [])
>>> forms.steps(other) == [("back", "left", star, 0)]
True
>>> forms.simplest(other)
0
>>> (forms.is_simplest(star), forms.is_simplest(other))
(True, False)
''',
    "sums": '''
>>> from sumsplay.forms import Forms
>>> from sumsplay.order import Order
>>> from sumsplay.sums import Sums
>>> from sumsplay.yard import Yard
>>> yard = Yard()
>>> sums = Sums(Forms(Order(yard)))
>>> one = yard.game([0], [])
>>> star = yard.game([0], [0])
>>> sums.plus(one, star) == yard.game([star, one], [one])
True
>>> sums.plus(star, star) == yard.game([star], [star])
True
>>> sums.plain([star, one, star]) == one
True
>>> sums.total([])
0
>>> sums.copies(one, -1) == yard.game([], [0])
True
>>> sums.copies(one, 65)
raises BadValue
>>> sums.company(sums.plus(star, star), 0) is None
True
>>> sums.company(star, one) is None
False
''',
    "values": '''
>>> from sumsplay.dyadic import Dyadic
>>> from sumsplay.forms import Forms
>>> from sumsplay.order import Order
>>> from sumsplay.sums import Sums
>>> from sumsplay.values import Values
>>> from sumsplay.yard import Yard
>>> yard = Yard()
>>> values = Values(Sums(Forms(Order(yard))))
>>> one = values.number(Dyadic(1))
>>> half = values.number(Dyadic(1, 1))
>>> half == yard.game([0], [one])
True
>>> values.number_of(yard.game([half], [])).text()
'1'
>>> values.number_of(yard.game([one], [half])) is None
True
>>> values.heap_of(values.sums.plus(values.heap(6), values.heap(3)))
5
>>> switch = yard.game([values.number(Dyadic(5, 1))], [values.number(Dyadic(-1))])
>>> (values.left_stop(switch).text(), values.right_stop(switch).text())
('5/2', '-1')
>>> (values.is_small(values.up(3, 1)), values.is_small(switch))
(True, False)
>>> values.number(Dyadic(129, 1))
raises BadValue
''',
    "walls": '''
>>> from sumsplay.dyadic import Dyadic
>>> from sumsplay.walls import Wall, highest
>>> wall = Wall([(Dyadic(0), Dyadic(3)), (Dyadic(1), Dyadic(2)), (Dyadic(2), Dyadic(1))], 0)
>>> [(heat.text(), place.text()) for heat, place in wall.points()]
[('0', '3'), ('2', '1')]
>>> (wall.at(Dyadic(5, 2)).text(), wall.at(Dyadic(9)).text(), wall.slope_at(Dyadic(2)))
('7/4', '1', 0)
>>> top = highest([wall, Wall([(Dyadic(0), Dyadic(2))], 1)])
>>> [(heat.text(), place.text()) for heat, place in top.points()]
[('0', '3'), ('1/2', '5/2')]
>>> top.slope
1
>>> Wall([(Dyadic(1), Dyadic(0))], 0)
raises BadValue
''',
    "heat": '''
>>> from sumsplay.dyadic import Dyadic
>>> from sumsplay.forms import Forms
>>> from sumsplay.heat import Heat
>>> from sumsplay.order import Order
>>> from sumsplay.sums import Sums
>>> from sumsplay.values import Values
>>> from sumsplay.yard import Yard
>>> yard = Yard()
>>> heat = Heat(Values(Sums(Forms(Order(yard)))))
>>> one = yard.game([0], [])
>>> two = yard.game([one], [])
>>> threat = yard.game([0], [yard.turned(yard.game([yard.game([two], [])], []))])
>>> (heat.mean(threat).text(), heat.heat(threat).text())
('-2', '2')
>>> game = yard.game([two], [threat])
>>> [[(warm.text(), place.text()) for warm, place in wall.points()] for wall in heat.walls(game)]
[[('0', '2'), ('2', '0')], [('0', '0')]]
>>> (heat.mean(game).text(), heat.heat(game).text(), heat.heat(two) is None)
('0', '2', True)
>>> heat.cooled(game, Dyadic(1)) == yard.game([one], [yard.game([0], [yard.turned(two)])])
True
>>> heat.cooled(game, Dyadic(5, 1))
0
''',
    "heaps": '''
>>> from sumsplay.heaps import Heaps
>>> board = Heaps([2, 0, 1])
>>> [other.value() for other in board.moves("right")]
[('heaps', (1, 0, 1)), ('heaps', (0, 0, 1)), ('heaps', (2, 0, 0))]
>>> [part.value() for part in board.parts()]
[('heaps', (2,)), ('heaps', (1,))]
''',
    "hedge": '''
>>> from sumsplay.hedge import Hedge
>>> board = Hedge([(0, 1, "blue"), (1, 2, "red"), (3, 4, "green"), (0, 0, "red")])
>>> [other.value() for other in board.moves("right")]
[('hedge', ((0, 1, 'blue'), (0, 0, 'red'))), ('hedge', ((0, 1, 'blue'), (1, 2, 'red')))]
>>> [part.value() for part in board.parts()]
[('hedge', ((0, 1, 'blue'), (1, 2, 'red'))), ('hedge', ((0, 0, 'red'),))]
''',
    "floor": '''
>>> from sumsplay.floor import Floor
>>> [other.value() for other in Floor(["..#", ".#."]).moves("left")]
[('floor', ('#.#', '##.'))]
>>> [part.value() for part in Floor(["..#.", ".###", "#..#"]).parts()]
[('floor', ('..', '.#')), ('floor', ('..',))]
''',
    "boards": '''
>>> from sumsplay.boards import board_of, game_of
>>> from sumsplay.yard import Yard
>>> yard = Yard()
>>> one = yard.game([0], [])
>>> other = yard.game([], [0])
>>> game_of(yard, board_of(("frogs", "T.F"))) == yard.game([yard.game([], [one])], [yard.game([other], [])])
True
''',
    "texts": '''
>>> from sumsplay.forms import Forms
>>> from sumsplay.order import Order
>>> from sumsplay.sums import Sums
>>> from sumsplay.texts import read_game, write_game
>>> from sumsplay.values import Values
>>> from sumsplay.yard import Yard
>>> values = Values(Sums(Forms(Order(Yard()))))
>>> write_game(values, read_game(values, "{1|-1}-{1|-1}+3/4"))
'3/4'
>>> write_game(values, read_game(values, "*1+*3"))
'*2'
>>> write_game(values, read_game(values, "{^,0|*1,*1+1}"))
'{{0|*1}|*1}'
>>> read_game(values, "2/4")
raises BadText
''',
}

# Class by class, the methods and their arguments. Properties are listed apart.
CLASSES = {
    ("dyadic", "Dyadic"): {
        "__init__": ["top", "power"], "__add__": None, "__sub__": None, "__neg__": None, "less": ["other"],
        "same": ["other"], "half": [], "text": [], "age": [],
    },
    ("yard", "Yard"): {
        "__init__": [], "game": ["lefts", "rights"], "lefts": ["game"], "rights": ["game"],
        "options": ["game", "side"], "height": ["game"], "followers": ["game"], "turned": ["game"],
    },
    ("order", "Order"): {
        "__init__": ["yard"], "at_least": ["one", "other"], "at_most": ["one", "other"], "alike": ["one", "other"],
        "less": ["one", "other"], "apart": ["one", "other"], "can_win": ["game", "side"],
        "winning": ["game", "side"], "outcome": ["game"],
    },
    ("forms", "Forms"): {
        "__init__": ["order"], "steps": ["game"], "taken": ["game", "step"], "simplest": ["game"],
        "is_simplest": ["game"],
    },
    ("sums", "Sums"): {
        "__init__": ["forms"], "plus": ["one", "other"], "total": ["games"], "minus": ["one", "other"],
        "copies": ["game", "count"], "plain": ["games"], "company": ["one", "other"],
    },
    ("values", "Values"): {
        "__init__": ["sums"], "number": ["dyadic"], "number_of": ["game"], "heap": ["size"], "heap_of": ["game"],
        "up": ["count", "size"], "left_stop": ["game"], "right_stop": ["game"], "is_small": ["game"],
    },
    ("walls", "Wall"): {
        "__init__": ["points", "slope"], "points": [], "at": ["heat"], "slope_at": ["heat"], "tilted": ["slope"],
        "turned": [], "cut": ["heat"],
    },
    ("heat", "Heat"): {
        "__init__": ["worth"], "walls": ["game"], "heat": ["game"], "mean": ["game"], "cooled": ["game", "heat"],
    },
    ("heaps", "Heaps"): {"__init__": ["sizes"], "moves": ["side"], "value": [], "parts": []},
    ("hedge", "Hedge"): {"__init__": ["edges"], "moves": ["side"], "value": [], "parts": []},
    ("floor", "Floor"): {"__init__": ["rows"], "moves": ["side"], "value": [], "parts": []},
    ("frogs", "Frogs"): {"__init__": ["line"], "moves": ["side"], "value": [], "parts": []},
    ("cake", "Cakes"): {"__init__": ["cakes"], "moves": ["side"], "value": [], "parts": []},
    ("table", "Table"): {"__init__": ["rows", "place"], "moves": ["side"], "value": [], "parts": []},
    ("meeting", "Meeting"): {
        "__init__": ["boards"], "boards": [], "moves": ["side"], "moved": ["place", "board"], "value": [],
    },
    ("plans", "Plans"): {
        "__init__": ["worth"], "game": ["meeting"], "winner": ["meeting", "first"], "plan": ["meeting", "side"],
        "judge": ["meeting", "side", "first"],
    },
    ("match", "Match"): {
        "__init__": ["meeting", "first"], "moves": [], "play": ["index"], "back": [], "winner": [], "record": [],
        "value": [],
    },
}
PROPERTIES = {
    ("dyadic", "Dyadic"): ["top", "power"], ("yard", "Yard"): ["size"], ("order", "Order"): ["yard"],
    ("forms", "Forms"): ["yard"], ("sums", "Sums"): ["yard"], ("values", "Values"): ["forms", "yard"],
    ("walls", "Wall"): ["slope"], ("match", "Match"): ["turn", "meeting"],
}
# The static methods, each with its argument.
STATICS = {("dyadic", "Dyadic", "from_text"): "text", ("meeting", "Meeting", "from_value"): "value",
           ("match", "Match", "from_value"): "value"}
# The functions of the interface, each with its file and its arguments.
FUNCTIONS = {
    ("dyadic", "simplest_between"): ["low", "high"], ("walls", "highest"): ["walls"], ("walls", "lowest"): ["walls"],
    ("boards", "is_board"): ["thing"], ("boards", "board_of"): ["value"], ("boards", "game_of"): ["yard", "board"],
    ("boards", "game_by_parts"): ["sums", "board"], ("texts", "write_game"): ["values", "game"],
    ("texts", "read_game"): ["values", "text"],
}
ERRORS = ("PlayError", "BadValue", "BadText", "Unknown", "NoMove")


def module(name):
    return importlib.import_module("sumsplay." + name)


def steps(text):
    """The lines behind the prompts, each with the line that is told for it, or None."""
    found = []
    for line in text.strip().split("\n"):
        if line.startswith(">>> "):
            found.append([line[4:], None])
        else:
            found[-1][1] = line
    return found


class ExamplesTest(unittest.TestCase):
    def run_examples(self, name):
        names = {}
        for line, told in steps(EXAMPLES[name]):
            if told is None:
                exec(line, names)
            elif told.startswith("raises "):
                with self.assertRaises(getattr(module("errors"), told[7:]), msg=line):
                    eval(line, names)
            else:
                self.assertEqual(repr(eval(line, names)), told, line)

    def test_the_examples(self):
        for name in EXAMPLES:
            with self.subTest(name):
                self.run_examples(name)

    def test_there_are_examples(self):
        counts = {"dyadic": 8, "yard": 12, "order": 13, "forms": 15, "sums": 16, "values": 18, "walls": 9, "heat": 18,
                  "heaps": 4, "hedge": 4, "floor": 3, "boards": 6, "texts": 11}
        self.assertEqual({name: len(steps(text)) for name, text in EXAMPLES.items()}, counts)


class InterfaceTest(unittest.TestCase):
    def test_each_class_and_function_stands_in_its_file(self):
        for name, class_name in CLASSES:
            self.assertEqual(getattr(module(name), class_name).__module__, "sumsplay." + name)
        for error in ERRORS:
            self.assertEqual(getattr(module("errors"), error).__module__, "sumsplay.errors")
        for (name, function), arguments in FUNCTIONS.items():
            told = getattr(module(name), function)
            self.assertEqual(told.__module__, "sumsplay." + name)
            self.assertEqual(list(inspect.signature(told).parameters), arguments)

    def test_each_method_stands_in_its_class_with_its_arguments(self):
        for (name, class_name), methods in CLASSES.items():
            body = vars(getattr(module(name), class_name))
            for method, arguments in methods.items():
                self.assertIn(method, body)
                self.assertTrue(inspect.isfunction(body[method]), method)
                if arguments is not None:
                    self.assertEqual(list(inspect.signature(body[method]).parameters)[1:], arguments, method)

    def test_properties_and_static_methods_stand_in_their_classes(self):
        for (name, class_name), names in PROPERTIES.items():
            for word in names:
                self.assertIsInstance(vars(getattr(module(name), class_name))[word], property)
        for (name, class_name, method), argument in STATICS.items():
            static = vars(getattr(module(name), class_name))[method]
            self.assertIsInstance(static, staticmethod)
            self.assertEqual(list(inspect.signature(static.__func__).parameters), [argument])

    def test_arguments_may_be_passed_by_their_names(self):
        Dyadic = module("dyadic").Dyadic
        number = Dyadic(power=2, top=6)
        self.assertEqual((number.top, number.power), (3, 1))
        self.assertIs(number.less(other=Dyadic(top=2)), True)
        self.assertIs(number.same(other=Dyadic(3, power=1)), True)
        self.assertEqual(Dyadic.from_text(text="3/2").text(), "3/2")
        between = module("dyadic").simplest_between
        self.assertEqual(between(high=None, low=number).text(), "2")
        yard = module("yard").Yard()
        order = module("order").Order(yard=yard)
        one = yard.game(rights=[], lefts=[0])
        self.assertEqual((yard.lefts(game=one), yard.rights(game=one)), ([0], []))
        self.assertEqual(yard.options(side="left", game=one), [0])
        self.assertEqual((yard.height(game=one), yard.followers(game=one)), (1, [0, one]))
        self.assertEqual(yard.turned(game=one), yard.game([], [0]))
        self.assertIs(order.at_least(other=0, one=one), True)
        self.assertIs(order.at_most(other=0, one=one), False)
        self.assertIs(order.alike(other=0, one=one), False)
        self.assertIs(order.less(other=0, one=one), False)
        self.assertIs(order.apart(other=0, one=one), False)
        self.assertIs(order.can_win(side="left", game=one), True)
        self.assertEqual(order.winning(side="left", game=one), [0])
        self.assertEqual(order.outcome(game=one), "left")

    def test_arguments_of_games_may_be_passed_by_their_names(self):
        order = module("order").Order(module("yard").Yard())
        forms = module("forms").Forms(order=order)
        one = forms.yard.game([0], [])
        two = forms.yard.game([0, one], [])
        self.assertEqual(forms.steps(game=two), [("drop", "left", 0)])
        self.assertEqual(forms.taken(step=("drop", "left", 0), game=two), forms.simplest(game=two))
        self.assertIs(forms.is_simplest(game=two), False)
        sums = module("sums").Sums(forms=forms)
        self.assertEqual((sums.plus(other=0, one=one), sums.minus(other=0, one=one)), (one, one))
        self.assertEqual((sums.total(games=[one]), sums.plain(games=[one])), (one, one))
        self.assertEqual(sums.copies(count=1, game=one), one)
        self.assertIsNone(sums.company(other=one, one=one))
        values = module("values").Values(sums=sums)
        self.assertEqual(values.number(dyadic=module("dyadic").Dyadic(1)), one)
        self.assertEqual(values.number_of(game=one).text(), "1")
        self.assertEqual(values.heap_of(game=values.heap(size=3)), 3)
        self.assertEqual(values.up(size=1, count=0), values.heap(1))
        self.assertEqual((values.left_stop(game=one).text(), values.right_stop(game=one).text()), ("1", "1"))
        self.assertIs(values.is_small(game=one), False)
        heat = module("heat").Heat(worth=values)
        self.assertEqual((len(heat.walls(game=one)), heat.heat(game=one), heat.mean(game=one).text()), (2, None, "1"))
        self.assertEqual(heat.cooled(heat=module("dyadic").Dyadic(2), game=one), one)

    def test_arguments_of_walls_and_boards_may_be_passed_by_their_names(self):
        Dyadic, walls = module("dyadic").Dyadic, module("walls")
        wall = walls.Wall(slope=1, points=[(Dyadic(0), Dyadic(0))])
        self.assertEqual((wall.at(heat=Dyadic(3)).text(), wall.slope_at(heat=Dyadic(3))), ("3", 1))
        self.assertEqual((wall.tilted(slope=-1).slope, wall.cut(heat=Dyadic(3)).slope), (0, 0))
        self.assertEqual((walls.highest(walls=[wall]).slope, walls.lowest(walls=[wall]).slope), (1, 1))
        heaps = module("heaps").Heaps(sizes=[1])
        hedge = module("hedge").Hedge(edges=[(0, 1, "red")])
        floor = module("floor").Floor(rows=[".."])
        self.assertEqual([len(board.moves(side="right")) for board in (heaps, hedge, floor)], [1, 1, 1])

    def test_arguments_of_further_boards_may_be_passed_by_their_names(self):
        frogs = module("frogs").Frogs(line="T.F")
        cakes = module("cake").Cakes(cakes=[(2, 2)])
        table = module("table").Table(place=0, rows=[((1,), (1,)), ((), ())])
        self.assertEqual([len(board.moves(side="left")) for board in (frogs, cakes, table)], [1, 1, 1])
        boards = module("boards")
        self.assertIs(boards.is_board(thing=frogs), True)
        self.assertEqual(boards.board_of(value=frogs.value()).value(), ("frogs", "T.F"))
        sums = module("sums").Sums(module("forms").Forms(module("order").Order(module("yard").Yard())))
        star = sums.yard.game([0], [0])
        self.assertEqual((boards.game_of(board=table, yard=sums.yard), boards.game_by_parts(board=table, sums=sums)), (star, star))

    def test_arguments_of_texts_and_meetings_may_be_passed_by_their_names(self):
        sums = module("sums").Sums(module("forms").Forms(module("order").Order(module("yard").Yard())))
        values = module("values").Values(sums)
        texts, star = module("texts"), values.heap(1)
        self.assertEqual(texts.write_game(game=star, values=values), "*1")
        self.assertEqual(texts.read_game(text="*1", values=values), star)
        Meeting = module("meeting").Meeting
        meeting = Meeting(boards=[module("heaps").Heaps([1])])
        (place, board), = meeting.moves(side="left")
        self.assertEqual(meeting.moved(board=board, place=place).value(), (("heaps", (0,)),))
        self.assertEqual(Meeting.from_value(value=meeting.value()).value(), meeting.value())
        plans = module("plans").Plans(worth=values)
        self.assertEqual(plans.game(meeting=meeting), star)
        self.assertEqual(plans.winner(first="right", meeting=meeting), "right")
        self.assertEqual(plans.plan(side="right", meeting=meeting), 0)
        self.assertIs(plans.judge(first="right", side="left", meeting=meeting), False)
        match = module("match").Match(first="right", meeting=meeting)
        match.play(index=0)
        self.assertEqual((match.turn, match.meeting.value(), match.winner()), ("left", (("heaps", (0,)),), "right"))

    def test_fields_are_set_on_each_object(self):
        sums = module("sums").Sums(module("forms").Forms(module("order").Order(module("yard").Yard())))
        values = module("values").Values(sums)
        for name, class_name in (("plans", "Plans"), ("heat", "Heat")):
            told = getattr(module(name), class_name)(values)
            self.assertIs(vars(told)["worth"], values)
        self.assertIs(vars(values)["sums"], sums)
        self.assertIs(vars(sums.forms)["order"], sums.forms.order)

    def test_the_size_of_a_heap_beside_ups_is_0_if_it_is_left_out(self):
        signature = inspect.signature(vars(module("values").Values)["up"])
        self.assertEqual(signature.parameters["size"].default, 0)
        self.assertIs(signature.parameters["count"].default, inspect.Parameter.empty)

    def test_the_power_is_0_if_it_is_left_out(self):
        signature = inspect.signature(vars(module("dyadic").Dyadic)["__init__"])
        self.assertEqual(signature.parameters["power"].default, 0)
        self.assertIs(signature.parameters["top"].default, inspect.Parameter.empty)


if __name__ == "__main__":
    unittest.main()
