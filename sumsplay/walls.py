"""Walls: broken lines that tell a place for every temperature."""

from sumsplay.dyadic import Dyadic, exact
from sumsplay.errors import BadValue
from sumsplay.whole import is_whole

SLOPES = (-1, 0, 1)


class Wall:
    """A wall (point 7.1). It does not change.

    It is kept as a list of pieces, told by the temperature and the place where each begins, integers that
    stand for themselves over 2 ** power, and by its slope. So walls are compared by integers alone.
    """

    def __init__(self, points, slope):
        if not points or not points[0][0].same(Dyadic(0)):
            raise BadValue("the first temperature is not 0")
        _check_slope(slope)
        self._power = max([max(heat.power, place.power) for heat, place in points])
        self._pieces = _read_pieces(points, slope, self._power)

    @property
    def slope(self):
        """The slope behind the last point."""
        return self._pieces[-1][2]

    def points(self):
        """The points that make a difference (point 7.2), pairs of a temperature and a place."""
        return [(exact(heat, self._power), exact(place, self._power)) for heat, place, _ in self._pieces]

    def at(self, heat):
        """The place at a temperature, a Dyadic."""
        _check_heat(heat)
        power = max(self._power, heat.power)
        return exact(_place(_scaled_pieces(self, power), _scaled(heat, power)), power)

    def slope_at(self, heat):
        """The slope of the piece right behind a temperature (point 7.2)."""
        _check_heat(heat)
        power = max(self._power, heat.power)
        return _piece(_scaled_pieces(self, power), _scaled(heat, power))[2]

    def tilted(self, slope):
        """The wall tilted by a slope (point 7.3)."""
        for _, _, old_slope in self._pieces:
            _check_slope(old_slope + slope)
        return _built([(heat, place + slope * heat, old + slope) for heat, place, old in self._pieces], self._power)

    def turned(self):
        """The wall at the negative places (point 7.3)."""
        return _built([(heat, -place, -slope) for heat, place, slope in self._pieces], self._power)

    def cut(self, heat):
        """The wall that is level behind a temperature (point 7.3)."""
        _check_heat(heat)
        power = max(self._power, heat.power)
        pieces = _scaled_pieces(self, power)
        end = _scaled(heat, power)
        kept = [piece for piece in pieces if piece[0] < end]
        return _built(kept + [(end, _place(pieces, end), 0)], power)


def highest(walls):
    """The highest of some walls (point 7.3)."""
    power = _common_power(walls)
    pieces = _scaled_pieces(walls[0], power)
    for wall in walls[1:]:
        pieces = _upper(pieces, _scaled_pieces(wall, power))
    return _built(pieces, power)


def lowest(walls):
    """The lowest of some walls (point 7.3)."""
    return highest([wall.turned() for wall in walls]).turned()


def meeting(upper, lower):
    """The least temperature at which the first wall is not above the second one, or None."""
    power = _common_power([upper, lower])
    for heat, end, first, second in _side_by_side(_scaled_pieces(upper, power), _scaled_pieces(lower, power)):
        if first[0] <= second[0]:
            return exact(heat, power)
        crossing = _crossing(heat, end, first, second)
        if crossing is not None:
            return exact(crossing, power)
    return None


def _check_slope(slope):
    if not is_whole(slope, -1, 1):
        raise BadValue("a slope is not -1, 0 or 1")


def _check_heat(heat):
    if heat.less(Dyadic(0)):
        raise BadValue("the temperature is below 0")


def _scaled(number, power):
    """The integer that stands for a Dyadic over 2 ** power, which is at least its own power."""
    return number.top << (power - number.power)


def _scaled_pieces(wall, power):
    """The pieces of a wall over 2 ** power, which is at least its own power."""
    more = power - wall._power
    return [(heat << more, place << more, slope) for heat, place, slope in wall._pieces]


def _common_power(walls):
    """A power that does for some walls and for the temperatures and places at which two of them cross."""
    # At a crossing the slopes differ by at most 2, so that its temperature is at worst a half more.
    return 1 + max([wall._power for wall in walls])


def _read_pieces(points, slope, power):
    """The pieces of the wall with these points and this slope behind the last one."""
    scaled = [(_scaled(heat, power), _scaled(place, power)) for heat, place in points]
    pieces = []
    for at, (heat, place) in enumerate(scaled):
        behind = slope
        if at + 1 < len(scaled):
            behind = _slope_between((heat, place), scaled[at + 1])
        pieces.append((heat, place, behind))
    return _joined(pieces)


def _slope_between(point, next_point):
    run = next_point[0] - point[0]
    if run <= 0:
        raise BadValue("the temperatures do not ascend")
    for slope in SLOPES:
        if next_point[1] - point[1] == slope * run:
            return slope
    raise BadValue("a slope is not -1, 0 or 1")


def _joined(pieces):
    """The pieces without those that go on as the piece before them."""
    found = []
    for piece in pieces:
        if not found or found[-1][2] != piece[2]:
            found.append(piece)
    return found


def _built(pieces, power):
    """The wall with these pieces over 2 ** power."""
    wall = Wall([(Dyadic(0), Dyadic(0))], 0)
    wall._power = power
    wall._pieces = _joined(pieces)
    return wall


def _piece(pieces, heat):
    """The piece right behind a temperature."""
    return [piece for piece in pieces if piece[0] <= heat][-1]


def _place(pieces, heat):
    """The place at a temperature."""
    start, place, slope = _piece(pieces, heat)
    return place + slope * (heat - start)


def _side_by_side(pieces, other_pieces):
    """Both walls between temperatures at which neither bends.

    Each row is the first and the last of these temperatures, which is None behind all bends, and the
    place at the first one and the slope of each wall.
    """
    rows = []
    heats = sorted(set([piece[0] for piece in pieces + other_pieces]))
    ends = heats[1:] + [None]
    at = other_at = 0
    for heat, end in zip(heats, ends):
        if at + 1 < len(pieces) and pieces[at + 1][0] <= heat:
            at += 1
        if other_at + 1 < len(other_pieces) and other_pieces[other_at + 1][0] <= heat:
            other_at += 1
        rows.append((heat, end, _from(pieces[at], heat), _from(other_pieces[other_at], heat)))
    return rows


def _from(piece, heat):
    """The place of a piece at a temperature, and its slope."""
    start, place, slope = piece
    return place + slope * (heat - start), slope


def _crossing(heat, end, first, second):
    """The temperature strictly between two others at which two straight pieces cross, or None."""
    gap, drift = first[0] - second[0], first[1] - second[1]
    if gap * drift >= 0:
        return None
    crossing = heat + abs(gap) // abs(drift)
    return crossing if end is None or crossing < end else None


def _upper(pieces, other_pieces):
    """The pieces of the highest of two walls."""
    found = []
    for heat, end, first, second in _side_by_side(pieces, other_pieces):
        place, slope = max(first, second)
        found.append((heat, place, slope))
        crossing = _crossing(heat, end, first, second)
        if crossing is not None:
            later = max(first[1], second[1])
            found.append((crossing, place + slope * (crossing - heat), later))
    return _joined(found)
