"""Spreads: the distances behind steps in all worlds of a case, each one as the least of some forms.

What a step does to the distances of a told world (see `steps`), it does here to lists of vectors.
"""

from missingmiles.forms import keys_of
from missingmiles.ratios import ZERO
from missingmiles.vectors import Frame, common_bottom, multiples_of, plain_vectors, sums_of
from missingmiles.words import LAYERS, STRANGERS


class Spread:
    """The vectors of the distances between points, and the points of the names that are there."""

    def __init__(self, frame, layers, points, named, table):
        self._frame = frame
        self._layers = tuple(layers)
        self._points = list(points)
        self._named = dict(named)
        self._table = {key: table[key] for key in table}

    def point(self, name):
        """The point of a name that is there."""
        return self._named[name]

    def points(self):
        """The list of the points: names, places that are put in, and strangers."""
        return list(self._points)

    def all_layers(self):
        """The layers that the script has."""
        return self._layers

    def ways(self, layer):
        """The keys of the distances between different points on a layer."""
        return [key for key in self._table if key[0] == layer]

    def flat(self, constant):
        """The vectors of a constant."""
        return [self._frame.flat(constant)]

    def vectors(self, layer, start, goal):
        """The vectors of the distance between two points."""
        if start == goal:
            return self.flat(ZERO)
        return self._table[(layer, start, goal)]

    def forms_of(self, key):
        """The forms of the distance of a key, ascending by their texts."""
        forms = [self._frame.form(vector) for vector in self.vectors(*key)]
        return sorted(forms, key=lambda form: form.text())

    def form_table(self):
        """The forms of all distances, by keys."""
        return {key: self.forms_of(key) for key in self._table}

    def with_ways(self, table):
        """The spread with other vectors for some distances, or with more distances."""
        behind = {key: self._table[key] for key in self._table}
        for key in table:
            behind[key] = table[key]
        return Spread(self._frame, self._layers, self._points, self._named, behind)

    def with_point(self, name):
        """The spread with a point more ahead of the strangers, and a name for it."""
        *others, one, other = self._points
        put_before = [point for point in others if point.startswith("+")]
        put = f"+{len(put_before) + 1}"
        named = {**self._named, name: put}
        return Spread(self._frame, self._layers, [*others, put, one, other], named, self._table)

    def without_name(self, gone):
        """The spread in which a name is gone; its point stays."""
        named = {name: self._named[name] for name in self._named if name != gone}
        return Spread(self._frame, self._layers, self._points, named, self._table)


def first_spread(script):
    """The spread ahead of the steps of a script."""
    names = script.names()
    points = [*names, *STRANGERS]
    layers = LAYERS[:script.layers]
    keys = keys_of(points, layers)
    frame = Frame(keys, common_bottom(script.steps()))
    return Spread(frame, layers, points, {name: name for name in names}, {key: [frame.unit(key)] for key in keys})


def spread_behind(spread, step):
    """The spread behind a step other than if and repeat."""
    action = ACTIONS[step[0]]
    return action(spread, step)


def _with_road(spread, layer, start, goal, lengths):
    """The spread with a road between two points, whose length is the least of some vectors."""
    ahead = {point: sums_of(spread.vectors(layer, point, start), lengths) for point in spread.points()}
    table = {}
    for _, one, other in spread.ways(layer):
        by_road = sums_of(ahead[one], spread.vectors(layer, goal, other))
        table[(layer, one, other)] = plain_vectors([*spread.vectors(layer, one, other), *by_road])
    return spread.with_ways(table)


def _road(spread, step):
    _, layer, start, goal, length = step
    return _with_road(spread, layer, spread.point(start), spread.point(goal), spread.flat(length))


def _ride(spread, step):
    _, layer, start, goal, length = step
    one, other = spread.point(start), spread.point(goal)
    ridden = spread.vectors(LAYERS[1 - LAYERS.index(layer)], one, other)
    return _with_road(spread, layer, one, other, sums_of(ridden, spread.flat(length)))


def _place(spread, step):
    _, name, start, there, back = step
    near = spread.point(start)
    behind = spread.with_point(name)
    point = behind.point(name)
    table = {}
    for layer in spread.all_layers():
        for other in spread.points():
            table[(layer, other, point)] = sums_of(spread.vectors(layer, other, near), spread.flat(there))
            table[(layer, point, other)] = sums_of(spread.flat(back), spread.vectors(layer, near, other))
    return behind.with_ways(table)


def _same(spread, step):
    _, kept, gone = step
    one, other = spread.point(kept), spread.point(gone)
    behind = spread
    for layer in spread.all_layers():
        there = _with_road(behind, layer, one, other, spread.flat(ZERO))
        behind = _with_road(there, layer, other, one, spread.flat(ZERO))
    return behind.without_name(gone)


def _forget(spread, step):
    return spread.without_name(step[1])


def _cap(spread, step):
    _, layer, most = step
    cap = spread.flat(most)
    return spread.with_ways({key: plain_vectors([*spread.vectors(*key), *cap]) for key in spread.ways(layer)})


def _scale(spread, step):
    _, layer, factor = step
    return spread.with_ways({key: multiples_of(spread.vectors(*key), factor) for key in spread.ways(layer)})


def _turn(spread, _):
    table = {}
    for layer in spread.all_layers():
        for _, start, goal in spread.ways(layer):
            table[(layer, start, goal)] = spread.vectors(layer, goal, start)
    return spread.with_ways(table)


def _round(spread, step):
    layer = step[1]
    table = {}
    for _, start, goal in spread.ways(layer):
        table[(layer, start, goal)] = sums_of(spread.vectors(layer, start, goal), spread.vectors(layer, goal, start))
    return spread.with_ways(table)


ACTIONS = {
    "road": _road,
    "ride": _ride,
    "place": _place,
    "same": _same,
    "forget": _forget,
    "cap": _cap,
    "scale": _scale,
    "turn": _turn,
    "round": _round,
}
