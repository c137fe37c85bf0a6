"""Steps, and the worlds behind those that have no steps in them."""

from missingmiles.errors import DuplicateName, InvalidStep, TooMany, UnknownName
from missingmiles.ratios import ZERO, added, least_of, multiplied, ratio_of
from missingmiles.shapes import SHAPES, are_items, known_names
from missingmiles.words import LAYERS
from missingmiles.worlds import MOST_NAMES, World, world_of


def is_leaf(value, layers=2):
    """Whether any value is a step other than if and repeat, for so many layers."""
    if not isinstance(value, tuple) or not value or not isinstance(value[0], str):
        return False
    word, *items = value
    if word not in SHAPES or not are_items(SHAPES[word], items, layers):
        return False
    if word == "ride":
        return layers == 2
    return word != "same" or items[0] != items[1]


def changed(world, step):
    """The world behind a step other than if and repeat."""
    if not is_leaf(step, world.layers):
        raise InvalidStep(())
    for name in known_names(step):
        if name not in world:
            raise UnknownName(name)
    action = ACTIONS[step[0]]
    return action(world, step)


def _places(world):
    """The places by names."""
    return {name: world.place(name) for name in world.names()}


def _layers(world):
    return LAYERS[:world.layers]


def _with_table(world, layer, table):
    """The world with another table on a layer."""
    tables = [table if other == layer else world.table(other) for other in _layers(world)]
    return world_of(_places(world), tables)


def _with_road(world, layer, start, goal, length):
    """The world with a road between two places on a layer."""
    table = world.table(layer)
    behind = table[goal]
    rows = []
    for row in table:
        ahead = added(row[start], length)
        rows.append([least_of(far, added(ahead, rest)) for far, rest in zip(row, behind)])
    return _with_table(world, layer, rows)


def _road(world, step):
    _, layer, start, goal, length = step
    return _with_road(world, layer, world.place(start), world.place(goal), length)


def _ride(world, step):
    _, layer, start, goal, length = step
    other = LAYERS[1 - LAYERS.index(layer)]
    ridden = added(length, world.far(start, goal, layer=other))
    return _with_road(world, layer, world.place(start), world.place(goal), ridden)


def _place(world, step):
    _, name, start, there, back = step
    if name in world:
        raise DuplicateName(name)
    if len(world.names()) == MOST_NAMES:
        raise TooMany("names", MOST_NAMES)
    if world.size == World.MOST:
        raise TooMany("places", World.MOST)
    near = world.place(start)
    tables = [_with_place(world.table(layer), near, there, back) for layer in _layers(world)]
    places = _places(world)
    places[name] = world.size
    return world_of(places, tables)


def _with_place(table, near, there, back):
    """The table with one place more, told by the ways to it and back from a place that is near."""
    last = [added(back, far) for far in table[near]]
    rows = [[*row, added(row[near], there)] for row in table]
    return [*rows, [*last, ZERO]]


def _same(world, step):
    _, kept, gone = step
    one, other = world.place(kept), world.place(gone)
    behind = world
    for layer in _layers(world):
        there = _with_road(behind, layer, one, other, ZERO)
        behind = _with_road(there, layer, other, one, ZERO)
    return _without_name(behind, gone)


def _forget(world, step):
    return _without_name(world, step[1])


def _without_name(world, gone):
    places = {name: world.place(name) for name in world.names() if name != gone}
    return world_of(places, [world.table(layer) for layer in _layers(world)])


def _cap(world, step):
    _, layer, most = step
    cap = ratio_of(most)
    # The distance 0 from a place to itself is never above the cap.
    table = [[least_of(far, cap) for far in row] for row in world.table(layer)]
    return _with_table(world, layer, table)


def _scale(world, step):
    _, layer, factor = step
    table = [[multiplied(far, factor) for far in row] for row in world.table(layer)]
    return _with_table(world, layer, table)


def _turn(world, _):
    tables = [_turned(world.table(layer)) for layer in _layers(world)]
    return world_of(_places(world), tables)


def _turned(table):
    return [[row[start] for row in table] for start in range(len(table))]


def _round(world, step):
    layer = step[1]
    there = world.table(layer)
    back = _turned(there)
    table = [[added(one, other) for one, other in zip(row, turned)] for row, turned in zip(there, back)]
    return _with_table(world, layer, table)


ACTIONS = {
    "road": _road,
    "ride": _ride,
    "place": _place,
    "same": _same,
    "forget": _forget,
    "cap": _cap,
    "scale": _scale,
    "turn": _turn,
    "round": _round,
}
