"""Hedges: edges that hang on the ground and are cut."""

from sumsplay.errors import BadValue
from sumsplay.whole import is_whole

MOST_EDGES = 16
MOST_KNOT = 15
GROUND = 0
COLOURS = ("blue", "green", "red")
CUTS = {"left": ("blue", "green"), "right": ("red", "green")}


class Hedge:
    """A hedge (point 8.5). It does not change."""

    def __init__(self, edges):
        if type(edges) is not list or len(edges) > MOST_EDGES:
            raise BadValue("this is not a list of at most 16 edges")
        for edge in edges:
            _check_edge(edge)
        held = _reached(edges, [GROUND])
        self._edges = tuple([edge for edge in edges if edge[0] in held])

    def moves(self, side):
        """The hedges that a side can move to, in the order of the edges that it cuts."""
        found = {}
        for at, edge in enumerate(self._edges):
            if edge[2] in CUTS[side]:
                board = Hedge([*self._edges[:at], *self._edges[at + 1:]])
                # Cuts of edges that are the same, or behind which the same is left, are one move.
                found.setdefault(board.value(), board)
        return list(found.values())

    def value(self):
        """The value of the hedge (point 8.2)."""
        return "hedge", self._edges

    def parts(self):
        """The hedges of those edges that knots above the ground bring together (point 8.3)."""
        found = []
        done = {}
        for at in range(len(self._edges)):
            if at not in done:
                together = self._together(at)
                for place in together:
                    done[place] = True
                found.append(Hedge([self._edges[place] for place in together]))
        return found

    def _together(self, at):
        """The places of the edges that are in the same part as the one at a place, ascending."""
        start = [knot for knot in self._edges[at][:2] if knot != GROUND]
        knots = _reached([edge for edge in self._edges if GROUND not in edge[:2]], start)
        # An edge from the ground to itself has no knot above it and is a part alone.
        return [place for place, (one, other, _) in enumerate(self._edges)
                if place == at or one in knots or other in knots]


def _check_edge(edge):
    """Raises BadValue if any Python object is not an edge."""
    if type(edge) is not tuple or len(edge) != 3:
        raise BadValue("an edge is not a tuple of three")
    for knot in edge[:2]:
        if not is_whole(knot, 0, MOST_KNOT):
            raise BadValue("a knot is not an integer from 0 to 15")
    if not (type(edge[2]) is str and edge[2] in COLOURS):
        raise BadValue("a colour is not blue, green or red")


def _reached(edges, knots):
    """The knots that rows of edges lead to from some knots, these among them, as a dict of True."""
    found = {knot: True for knot in knots}
    grown = True
    while grown:
        grown = False
        for one, other, _ in edges:
            if (one in found) != (other in found):
                found[one] = found[other] = True
                grown = True
    return found
