"""Pairings: two scripts that fit, and what is asked of each two of their cases."""

from missingmiles.cases import cases, triangles
from missingmiles.facts import fact_rows
from missingmiles.words import LAYERS, STRANGERS
from missingmiles.worlds import World

# The first words of the keys of an Alike: whose forms are held against those of the other script.
SIDES = ("one", "other")


def fit(one, other):
    """Whether two scripts have the same names, layers and ends, and put in equally many places."""
    if one.names() != other.names() or one.layers != other.layers:
        return False
    return one.ends() == other.ends() and one.puts == other.puts


def looked_at(points):
    """The list of the looked-at pairs of the points of a case."""
    own = [point for point in points if point not in STRANGERS]
    one, other = STRANGERS
    pairs = [(start, goal) for start in own for goal in own if start != goal]
    for point in own:
        pairs.extend([(point, one), (one, point)])
    return [*pairs, (one, other)]


def strangers_in(points):
    """The list of the strangers among some points."""
    return [stranger for stranger in STRANGERS if stranger in points]


def places_behind(script, start, goal):
    """The places of a pair of points behind a script, if the strangers of the pair stand behind the names."""
    puts = [f"+{put + 1}" for put in range(script.puts)]
    points = [*script.names(), *strangers_in((start, goal)), *puts]
    return points.index(start), points.index(goal)


def places_of_strangers(script, start, goal):
    """The places of the strangers of a pair, behind those of the names of a script."""
    first = len(script.names())
    return list(range(first, first + len(strangers_in((start, goal)))))


def is_world_for(value, script, start, goal):
    """Whether any value is a world of the names of a script, ascending, and behind them the strangers of a pair."""
    names = script.names()
    if not isinstance(value, World) or value.layers != script.layers or value.names() != names:
        return False
    places = [*[value.place(name) for name in names], *places_of_strangers(script, start, goal)]
    return places == list(range(value.size))


class Pairing:
    """Two scripts that fit, their cases, and the rows that the worlds of each two cases keep."""

    def __init__(self, one, other, facts):
        self._ones = cases(one)
        self._others = cases(other)
        self._facts = fact_rows(facts)
        names = one.names()
        self._triangles = [triangles([*names, *STRANGERS[:many]], one.layers) for many in range(3)]
        pairs = looked_at(self._ones[0].points())
        self._lines = [(layer, start, goal) for layer in LAYERS[:one.layers] for start, goal in pairs]

    def duos(self):
        """The list of the pairs of indexes of the cases of both scripts."""
        return [(i, j) for i in range(len(self._ones)) for j in range(len(self._others))]

    def duo_rows(self, duo):
        """The rows of two cases for pairs without strangers, with the first one, and with both."""
        i, j = duo
        about = [*self._facts, *self._ones[i].rows(), *self._others[j].rows()]
        return [[*rows, *about] for rows in self._triangles]

    def questions(self, duo, side):
        """What is asked of each form of a side: a key, the form, and the forms of the other side."""
        i, j = duo
        asked = []
        for layer, start, goal in self._lines:
            forms = self._ones[i].forms(start, goal, layer=layer)
            others = self._others[j].forms(start, goal, layer=layer)
            if side == "other":
                forms, others = others, forms
            for index, form in enumerate(forms):
                asked.append(((side, i, j, layer, start, goal, index), form, others))
        return asked
