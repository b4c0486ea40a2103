"""Texts of games by the words of points 9.1 to 9.3."""

import re
from fractions import Fraction

from tests.anew import SIDES, dyadic, form
from tests.worked import beside, heap_games

NUMBER = re.compile(r"(0|[1-9][0-9]*)(/([1-9][0-9]*))?")


def number_told(text):
    """The number of an atom, or None."""
    match = NUMBER.fullmatch(text)
    if match is None:
        return None
    number = Fraction(int(match[1]), int(match[3] or 1))
    power = number.denominator.bit_length() - 1
    if number.denominator != 2 ** power or power > 12 or number > 64:
        return None
    # The plain form of the number has no other text.
    return number if str(number) == text else None


def sums(text, at, inside):
    """All ways to read a sum from a place on: where it ends, and its terms, each with whether it is turned."""
    for end, term in terms(text, at, inside):
        yield from further(text, end, [(False, term)], inside)


def further(text, at, told, inside):
    yield at, ("sum", told)
    if text[at:at + 1] in ("+", "-"):
        for end, term in terms(text, at + 1, inside):
            yield from further(text, end, told + [(text[at] == "-", term)], inside)


def terms(text, at, inside):
    yield from atoms(text, at, inside)
    if text[at:at + 1] == "-":
        for end, term in terms(text, at + 1, inside):
            yield end, ("sum", [(True, term)])


def atoms(text, at, inside):
    for end in range(at + 1, len(text) + 1):
        if number_told(text[at:end]) is not None:
            yield end, ("number", number_told(text[at:end]))
        if text[at:end] in [f"*{size}" for size in range(41)]:
            yield end, ("heap", int(text[at + 1:end]))
        if not re.fullmatch(r"[0-9/]+|\*[0-9]*", text[at:end]):
            break
    if text[at:at + 1] == "^":
        yield at + 1, ("up",)
    if inside < 12 and text[at:at + 1] == "(":
        for end, told in sums(text, at + 1, inside + 1):
            if text[end:end + 1] == ")":
                yield end + 1, told
    if inside < 12 and text[at:at + 1] == "{":
        for end, lefts in options(text, at + 1, "|", inside + 1):
            for last, rights in options(text, end, "}", inside + 1):
                yield last, ("game", lefts, rights)


def options(text, at, sign, inside):
    """All ways to read options and the sign behind them."""
    if text[at:at + 1] == sign:
        yield at + 1, []
    waiting = [(at, [])]
    while waiting:
        start, before = waiting.pop()
        for end, told in sums(text, start, inside):
            found = before + [told]
            if text[end:end + 1] == sign and len(found) <= 8:
                yield end + 1, found
            if text[end:end + 1] == "," and len(found) < 8:
                waiting.append((end + 1, found))


def told_anew(text):
    """What a text tells, or None if it is not the text of a game."""
    if len(text) > 400:
        return None
    ways = [told for end, told in sums(text, 0, 0) if end == len(text)]
    assert len(ways) < 2
    return ways[0] if ways else None


def height_told(told):
    """The height of the game that is told (points 2.4, 5.3 and 6.1)."""
    if told[0] == "number":
        return dyadic(told[1]).age()
    if told[0] == "heap":
        return told[1]
    if told[0] == "up":
        return 2
    if told[0] == "sum":
        return sum(height_told(term) for _, term in told[1])
    return max([1 + height_told(option) for side in told[1:] for option in side], default=0)


def game_told(yard, told):
    """The number of the game that is told."""
    if told[0] == "number":
        return form(yard, told[1])
    if told[0] == "heap":
        return heap_games(yard, told[1])[-1]
    if told[0] == "up":
        return yard.game([0], [yard.game([0], [0])])
    if told[0] == "sum":
        total = 0
        for turned, term in told[1]:
            game = game_told(yard, term)
            total = beside(yard, total, yard.turned(game) if turned else game)
        return total
    return yard.game(*[[game_told(yard, option) for option in side] for side in told[1:]])


def text_anew(anew, game, chance):
    """The text of a small game by the words of point 9.1. `anew` is an Anew object of its yard."""
    simplest = anew.simplest(game, chance)
    number = anew.number_of(simplest)
    if number is not None:
        return str(number)
    heaps = heap_games(anew.yard, anew.yard.height(simplest))
    if simplest in heaps and heaps.index(simplest) <= 40:
        return f"*{heaps.index(simplest)}"
    sides = [sorted(text_anew(anew, option, chance) for option in anew.options(simplest, side)) for side in SIDES]
    return "{" + "|".join(",".join(texts) for texts in sides) + "}"


def chosen_atom(chance, depth):
    word = chance.choice(("number", "heap", "up", "sum", "game", "game") if depth else ("number", "heap", "up"))
    if word == "number":
        return chance.choice(("0", "1", "2", "1/2", "3/4", "1/4", "3/2"))
    if word == "heap":
        return "*" + chance.choice(("0", "1", "1", "2", "3"))
    if word == "up":
        return "^"
    if word == "sum":
        return "(" + chosen_text(chance, depth - 1) + ")"
    return "{" + "|".join(",".join(chosen_text(chance, depth - 1) for _ in range(chance.choice((0, 1, 1, 2, 3))))
                          for _ in SIDES) + "}"


def chosen_text(chance, depth):
    """The text of a game by chance."""
    found = []
    for _ in range(chance.choice((1, 1, 1, 2))):
        found.append("-" * chance.choice((0, 0, 0, 1, 2)) + chosen_atom(chance, depth))
    return chance.choice("+-").join(found)
