"""Worlds: places with distances, in which a way by a third place is never shorter."""

from missingmiles.errors import (InvalidLayer, InvalidName, InvalidNumber, InvalidPlace, InvalidTable, InvalidWay,
                                 TooMany, UnknownName, UnlikeWorlds)
from missingmiles.ratios import ZERO, added, is_length, is_less, is_number, multiplied, ratio_of
from missingmiles.words import is_layer, is_name

MOST_NAMES = 5


def _is_table(value, most):
    """Whether any value is a list of 1 to so many lists, each with as many items."""
    if not isinstance(value, (list, tuple)) or not 1 <= len(value) <= most:
        return False
    return all([isinstance(row, (list, tuple)) and len(row) == len(value) for row in value])


def _is_distance(value, start, goal):
    return is_length(value) and (start != goal or ratio_of(value) == ZERO)


def _check_distances(table, layer):
    for start, row in enumerate(table):
        for goal, value in enumerate(row):
            if not _is_distance(value, start, goal):
                raise InvalidWay(layer, start, goal)


def _has_shorter(table, start, goal):
    """Whether a way by a third place is shorter."""
    far = table[start][goal]
    ways = [added(table[start][third], table[third][goal]) for third in range(len(table))]
    return any([is_less(way, far) for way in ways])


def _check_ways(table, layer):
    for start in range(len(table)):
        for goal in range(len(table)):
            if _has_shorter(table, start, goal):
                raise InvalidWay(layer, start, goal)


def _table_of(value, layer):
    """The table of ratios for a table of distances."""
    _check_distances(value, layer)
    table = tuple([tuple([ratio_of(far) for far in row]) for row in value])
    _check_ways(table, layer)
    return table


def _check_names(names, size):
    ascending = sorted(names)
    for name in ascending:
        if not is_name(name):
            raise InvalidName(name)
    if len(ascending) > MOST_NAMES:
        raise TooMany("names", MOST_NAMES)
    taken = []
    for name in ascending:
        place = names[name]
        if not is_number(place, 0, size - 1) or place in taken:
            raise InvalidPlace(place)
        taken.append(place)


class World:
    """Places, names for some of them, and the distances between them on one or two layers."""

    MOST = 9

    def __init__(self, names, foot, *, cart=None):
        if not _is_table(foot, self.MOST):
            raise InvalidTable("foot")
        self._tables = {"foot": _table_of(foot, "foot")}
        if cart is not None:
            if not _is_table(cart, self.MOST) or len(cart) != len(foot):
                raise InvalidTable("cart")
            self._tables["cart"] = _table_of(cart, "cart")
        _check_names(names, len(foot))
        self._places = {name: names[name] for name in sorted(names)}

    @property
    def size(self):
        """The number of places."""
        return len(self._tables["foot"])

    @property
    def layers(self):
        """The number of layers."""
        return len(self._tables)

    def names(self):
        """The ascending list of the names."""
        return list(self._places)

    def place(self, name):
        """The place with a name."""
        if name not in self:
            raise UnknownName(name)
        return self._places[name]

    def table(self, layer="foot"):
        """The list of the lists of the distances on a layer."""
        self._check_layer(layer)
        return [list(row) for row in self._tables[layer]]

    def far(self, start, goal, *, layer="foot"):
        """The distance between two places, each told by its number or its name."""
        self._check_layer(layer)
        first = self._number_of(start)
        return self._tables[layer][first][self._number_of(goal)]

    def part(self, *places):
        """The world of some places, told by their numbers, in their order."""
        if not places:
            raise InvalidNumber(0)
        kept = []
        for place in places:
            if not is_number(place, 0, self.size - 1) or place in kept:
                raise InvalidPlace(place)
            kept.append(place)
        names = {name: kept.index(self._places[name]) for name in self._places if self._places[name] in kept}
        tables = [[[table[start][goal] for goal in kept] for start in kept] for table in self._tables.values()]
        return world_of(names, tables)

    def grown(self, other, *, by=1):
        """The world whose distances are greater by those of another one, times a ratio."""
        if not isinstance(other, World) or not self._is_like(other):
            raise UnlikeWorlds()
        if not is_length(by):
            raise InvalidNumber(by)
        tables = []
        for layer in self._tables:
            rows = other.table(layer)
            tables.append([_grown_row(row, more, by) for row, more in zip(self._tables[layer], rows)])
        return world_of(self._places, tables)

    def _is_like(self, other):
        return self._places == other._places and self.size == other.size and self.layers == other.layers

    def _check_layer(self, layer):
        if not is_layer(layer, self.layers):
            raise InvalidLayer(layer)

    def _number_of(self, place):
        """The number of a place that is told by its number or its name."""
        if place in self:
            return self._places[place]
        if not is_number(place, 0, self.size - 1):
            raise InvalidPlace(place)
        return place

    def __contains__(self, name):
        return isinstance(name, str) and name in self._places

    def __eq__(self, other):
        return isinstance(other, World) and self._places == other._places and self._tables == other._tables

    def __len__(self):
        return len(self._tables["foot"])

    def __bool__(self):
        return True

    def __repr__(self):
        return f"World({names_text(self.names())}, {self.size} places, {self.layers} layers)"


def names_text(names):
    """The names with spaces between, or a dash without names."""
    return " ".join(names) or "-"


def _grown_row(row, more, by):
    return [added(far, multiplied(length, by)) for far, length in zip(row, more)]


def world_of(names, tables):
    """The world with the tables of one or two layers."""
    foot = tables[0]
    if len(tables) == 1:
        return World(names, foot)
    return World(names, foot, cart=tables[1])
