"""The straight forms that a distance behind a script needs, each with a world in which it alone is the least."""

from missingmiles.asking import Ground
from missingmiles.cases import cases, triangles
from missingmiles.copies import copied, listed
from missingmiles.errors import HasTests, InvalidLayer, InvalidPoint, UnknownName
from missingmiles.forms import Form
from missingmiles.means import Mean
from missingmiles.pairings import is_world_for, places_behind, places_of_strangers, strangers_in
from missingmiles.ratios import is_less
from missingmiles.scripts import run
from missingmiles.words import STRANGERS


class ShortList:
    """The forms of the distance of a pair of points behind a script, and for each one a world that needs it."""

    def __init__(self, script, start, goal, forms, worlds, *, layer="foot"):
        self._source = script
        self._forms = copied(forms)
        self._worlds = copied(worlds)
        self.start = start
        self.goal = goal
        self.layer = layer

    @property
    def source(self):
        """The script."""
        return self._source

    def forms(self):
        """The list of the forms."""
        return listed(self._forms)

    def worlds(self):
        """The list of the worlds."""
        return listed(self._worlds)

    def holds(self):
        """Whether each form is less than all others, and the distance behind the script, in its world."""
        if not self._has_forms() or not self._has_worlds():
            return False
        return all([self._is_needed(at, world) for at, world in enumerate(self._worlds)])

    def _has_forms(self):
        forms = self._forms
        if not isinstance(forms, (list, tuple)) or not forms:
            return False
        return all([isinstance(form, Form) for form in forms])

    def _has_worlds(self):
        worlds = self._worlds
        if not isinstance(worlds, (list, tuple)) or len(worlds) != len(self._forms):
            return False
        return all([is_world_for(world, self._source, self.start, self.goal) for world in worlds])

    def _is_needed(self, at, world):
        """Whether a form is less than all others in a world, and the distance behind the script."""
        places = places_of_strangers(self._source, self.start, self.goal)
        try:
            values = [form.value(world, *places) for form in self._forms]
        except (UnknownName, InvalidLayer):
            return False
        value = values.pop(at)
        start, goal = places_behind(self._source, self.start, self.goal)
        distance = run(self._source, world).far(start, goal, layer=self.layer)
        return value == distance and all([is_less(value, other) for other in values])

    def __len__(self):
        if isinstance(self._forms, (list, tuple)):
            return len(self._forms)
        return 0

    def __bool__(self):
        return True

    def __repr__(self):
        return f"ShortList({len(self)} forms)"


def shortest(script, start, goal, *, layer="foot"):
    """The ShortList of just the forms that the distance between two points behind a script needs."""
    if script.tests:
        raise HasTests()
    # The case checks the layer, and whether both are points, in the order in which it is promised.
    forms = cases(script)[0].forms(start, goal, layer=layer)
    _check_pair(start, goal)
    needed, worlds = _needed(script, strangers_in((start, goal)), forms)
    return ShortList(script, start, goal, needed, worlds, layer=layer)


def _check_pair(start, goal):
    """Checks that two points are unlike, and that the second stranger is told behind the first one only."""
    if goal == start:
        raise InvalidPoint(goal)
    second = STRANGERS[1]
    if second in (start, goal) and (start, goal) != STRANGERS:
        raise InvalidPoint(second)


def _needed(script, strangers, forms):
    """Those of the forms that are less than all others in some world, and these worlds.

    A form that is not needed can be left out at once: what is less than all others but for this one
    in some world is less than this one, too, in some world near by.
    """
    names = script.names()
    ground = Ground(names, strangers, script.layers)
    rows = triangles([*names, *strangers], script.layers)
    needed = forms
    worlds = []
    for form in forms:
        others = [other for other in needed if other != form]
        answer = ground.mean_or_world(form, others, rows)
        if isinstance(answer, Mean):
            needed = others
        else:
            worlds.append(answer)
    return needed, worlds
