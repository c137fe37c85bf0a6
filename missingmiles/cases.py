"""Cases: the ways through a script, and the distances behind it in the worlds that go each way."""

from itertools import permutations

from missingmiles.errors import InvalidLayer, InvalidPoint, TooMany
from missingmiles.forms import Form
from missingmiles.shapes import inner_steps, times_of
from missingmiles.spreads import first_spread, spread_behind
from missingmiles.words import LAYERS, is_layer

MOST_CASES = 60


class Case:
    """The rows that a world keeps to go one way through a script, and the forms of the distances behind it."""

    def __init__(self, rows, points, layers, table):
        self._rows = list(rows)
        self._points = list(points)
        self._layers = layers
        self._table = {key: list(table[key]) for key in table}

    def rows(self):
        """The list of the rows (low, high, strict)."""
        return list(self._rows)

    def points(self):
        """The list of the points: names, places that are put in, and strangers."""
        return list(self._points)

    def forms(self, start, goal, *, layer="foot"):
        """The list of the forms whose least value is the distance between two points."""
        if not is_layer(layer, self._layers):
            raise InvalidLayer(layer)
        for point in (start, goal):
            if point not in self._points:
                raise InvalidPoint(point)
        if start == goal:
            return [Form()]
        return list(self._table[(layer, start, goal)])

    def __repr__(self):
        return f"Case({len(self._rows)} rows)"


def cases(script):
    """The list of the cases of a script."""
    found = []
    for rows, points, table in _ways_through(first_spread(script), script.steps()):
        found.append(Case(rows, points, script.layers, table))
    return found


def _ways_through(spread, steps):
    """The rows, the points and the forms of the distances behind steps, for each way through them."""
    present = spread
    pending = list(steps)
    while pending:
        step, *rest = pending
        if step[0] == "if":
            return _ways_behind_if(present, step, rest)
        if step[0] == "repeat":
            pending = [*(inner_steps(step) * times_of(step)), *rest]
        else:
            present = spread_behind(present, step)
            pending = rest
    return [([], present.points(), present.form_table())]


def _ways_behind_if(spread, step, rest):
    """The ways through an `if` and the steps behind it, those with its first steps first.

    What follows is alike for all forms of the distance that is asked, so it is worked out once.
    """
    _, layer, start, goal, most, near, far = step
    asked = spread.forms_of((layer, spread.point(start), spread.point(goal)))
    bound = Form(most)
    near_ways = _ways_through(spread, [*near, *rest])
    ways = [_way_with([(form, bound, False)], way) for form in asked for way in near_ways]
    far_rows = [(bound, form, True) for form in asked]
    ways.extend([_way_with(far_rows, way) for way in _ways_through(spread, [*far, *rest])])
    if len(ways) > MOST_CASES:
        raise TooMany("cases", MOST_CASES)
    return ways


def _way_with(rows, way):
    """A way with some rows more ahead of its own."""
    own_rows, points, table = way
    return ([*rows, *own_rows], points, table)


def triangles(points, layers):
    """The list of the triangles of some names and strangers on so many layers."""
    rows = []
    for layer in LAYERS[:layers]:
        for x, y, z in permutations(points, 3):
            by_third = Form(0, [((layer, x, y), 1), ((layer, y, z), 1)])
            rows.append((Form(0, [((layer, x, z), 1)]), by_third, False))
    return rows
