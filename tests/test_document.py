"""The examples of the document as they stand there, and the names, arguments and places of the interface."""

import importlib
import inspect
import unittest

EXAMPLES = {
    "dyadic": '''
>>> from sumsplay.dyadic import Dyadic, simplest_between
>>> (Dyadic(6, 2).top, Dyadic(6, 2).power)
(3, 1)
>>> (Dyadic(3, 2) - Dyadic(5)).text()
'-17/4'
>>> Dyadic(5, 1).age()
4
>>> Dyadic.from_text("-5/8").half().text()
'-5/16'
>>> Dyadic.from_text("2/4")
raises BadText
>>> simplest_between(Dyadic(1, 2), Dyadic(7, 3)).text()
'1/2'
>>> simplest_between(None, Dyadic(-5, 1)).text()
'-3'
''',
    "yard": '''
>>> from sumsplay.yard import Yard
>>> yard = Yard()
>>> one = yard.game([0], [])
>>> two = yard.game([one, 0, one], [])
>>> two == yard.game([0, one], [])
True
>>> yard.lefts(two) == sorted([0, one])
True
>>> yard.height(two)
2
>>> yard.followers(two) == sorted([0, one, two])
True
>>> yard.size
3
>>> yard.rights(yard.turned(one))
[0]
>>> yard.size
4
>>> yard.lefts(-1)
raises Unknown
''',
    "order": '''
>>> from sumsplay.order import Order
>>> from sumsplay.yard import Yard
>>> yard = Yard()
>>> order = Order(yard)
>>> one = yard.game([0], [])
>>> star = yard.game([0], [0])
>>> switch = yard.game([one], [yard.turned(one)])
>>> (order.outcome(0), order.outcome(one), order.outcome(star))
('second', 'left', 'first')
>>> (order.at_least(one, switch), order.at_least(switch, one))
(False, False)
>>> order.less(star, one)
True
>>> order.apart(star, 0)
True
>>> order.alike(yard.game([0, star], [one]), yard.game([0], [one]))
True
>>> order.winning(switch, "right") == [yard.turned(one)]
True
''',
}

# Class by class, the methods and their arguments. Properties are listed apart.
CLASSES = {
    ("dyadic", "Dyadic"): {
        "__init__": ["top", "power"], "__add__": None, "__sub__": None, "__neg__": None, "less": ["other"],
        "same": ["other"], "half": [], "text": [], "age": [],
    },
    ("yard", "Yard"): {
        "__init__": [], "game": ["lefts", "rights"], "lefts": ["game"], "rights": ["game"],
        "options": ["game", "side"], "height": ["game"], "followers": ["game"], "turned": ["game"],
    },
    ("order", "Order"): {
        "__init__": ["yard"], "at_least": ["one", "other"], "at_most": ["one", "other"], "alike": ["one", "other"],
        "less": ["one", "other"], "apart": ["one", "other"], "can_win": ["game", "side"],
        "winning": ["game", "side"], "outcome": ["game"],
    },
}
PROPERTIES = {("dyadic", "Dyadic"): ["top", "power"], ("yard", "Yard"): ["size"], ("order", "Order"): ["yard"]}
ERRORS = ("PlayError", "BadValue", "BadText", "Unknown", "NoMove")


def module(name):
    return importlib.import_module("sumsplay." + name)


def steps(text):
    """The lines behind the prompts, each with the line that is told for it, or None."""
    found = []
    for line in text.strip().split("\n"):
        if line.startswith(">>> "):
            found.append([line[4:], None])
        else:
            found[-1][1] = line
    return found


class ExamplesTest(unittest.TestCase):
    def run_examples(self, name):
        names = {}
        for line, told in steps(EXAMPLES[name]):
            if told is None:
                exec(line, names)
            elif told.startswith("raises "):
                with self.assertRaises(getattr(module("errors"), told[7:]), msg=line):
                    eval(line, names)
            else:
                self.assertEqual(repr(eval(line, names)), told, line)

    def test_the_examples_of_dyadic(self):
        self.run_examples("dyadic")

    def test_the_examples_of_yard(self):
        self.run_examples("yard")

    def test_the_examples_of_order(self):
        self.run_examples("order")


class InterfaceTest(unittest.TestCase):
    def test_each_class_and_function_stands_in_its_file(self):
        for name, class_name in CLASSES:
            self.assertEqual(getattr(module(name), class_name).__module__, "sumsplay." + name)
        for error in ERRORS:
            self.assertEqual(getattr(module("errors"), error).__module__, "sumsplay.errors")
        self.assertEqual(module("dyadic").simplest_between.__module__, "sumsplay.dyadic")

    def test_each_method_stands_in_its_class_with_its_arguments(self):
        for (name, class_name), methods in CLASSES.items():
            body = vars(getattr(module(name), class_name))
            for method, arguments in methods.items():
                self.assertIn(method, body)
                self.assertTrue(inspect.isfunction(body[method]), method)
                if arguments is not None:
                    self.assertEqual(list(inspect.signature(body[method]).parameters)[1:], arguments, method)

    def test_properties_and_the_static_method_stand_in_their_classes(self):
        for (name, class_name), names in PROPERTIES.items():
            for word in names:
                self.assertIsInstance(vars(getattr(module(name), class_name))[word], property)
        static = vars(module("dyadic").Dyadic)["from_text"]
        self.assertIsInstance(static, staticmethod)
        self.assertEqual(list(inspect.signature(static.__func__).parameters), ["text"])

    def test_arguments_may_be_passed_by_their_names(self):
        Dyadic = module("dyadic").Dyadic
        number = Dyadic(power=2, top=6)
        self.assertEqual((number.top, number.power), (3, 1))
        self.assertIs(number.less(other=Dyadic(top=2)), True)
        self.assertIs(number.same(other=Dyadic(3, power=1)), True)
        self.assertEqual(Dyadic.from_text(text="3/2").text(), "3/2")
        between = module("dyadic").simplest_between
        self.assertEqual(between(high=None, low=number).text(), "2")
        yard = module("yard").Yard()
        order = module("order").Order(yard=yard)
        one = yard.game(rights=[], lefts=[0])
        self.assertEqual((yard.lefts(game=one), yard.rights(game=one)), ([0], []))
        self.assertEqual(yard.options(side="left", game=one), [0])
        self.assertEqual((yard.height(game=one), yard.followers(game=one)), (1, [0, one]))
        self.assertEqual(yard.turned(game=one), yard.game([], [0]))
        self.assertIs(order.at_least(other=0, one=one), True)
        self.assertIs(order.at_most(other=0, one=one), False)
        self.assertIs(order.alike(other=0, one=one), False)
        self.assertIs(order.less(other=0, one=one), False)
        self.assertIs(order.apart(other=0, one=one), False)
        self.assertIs(order.can_win(side="left", game=one), True)
        self.assertEqual(order.winning(side="left", game=one), [0])
        self.assertEqual(order.outcome(game=one), "left")

    def test_the_power_is_0_if_it_is_left_out(self):
        signature = inspect.signature(vars(module("dyadic").Dyadic)["__init__"])
        self.assertEqual(signature.parameters["power"].default, 0)
        self.assertIs(signature.parameters["top"].default, inspect.Parameter.empty)


if __name__ == "__main__":
    unittest.main()
