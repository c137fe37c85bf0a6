"""Verdicts on two scripts; whether each one holds can be checked without solving anything."""

from missingmiles.copies import copied, length_of, listed
from missingmiles.errors import TooMany
from missingmiles.facts import is_fact
from missingmiles.forms import Form
from missingmiles.means import Mean
from missingmiles.pairings import SIDES, Pairing, fit, strangers_in
from missingmiles.ratios import is_less, is_number
from missingmiles.scripts import run
from missingmiles.words import is_layer
from missingmiles.worlds import World


class Verdict:
    """What is said of two scripts."""

    KIND = "open"

    def __init__(self, one, other):
        self._one = one
        self._other = other

    @property
    def one(self):
        """The first script."""
        return self._one

    @property
    def other(self):
        """The second script."""
        return self._other

    def told(self):
        """The verdict in short."""
        return self.KIND

    def holds(self):
        """Whether the verdict is right."""
        return False

    def __bool__(self):
        return False

    def __repr__(self):
        return f"Verdict({self.told()})"


def _is_pair(value):
    """Whether any value is a pair of a tuple of strings and numbers and a mean."""
    if not isinstance(value, tuple) or len(value) != 2 or not isinstance(value[0], tuple):
        return False
    if any([isinstance(item, bool) or not isinstance(item, (str, int)) for item in value[0]]):
        return False
    return isinstance(value[1], Mean)


class Alike(Verdict):
    """Means that show that two scripts leave the same in all worlds that keep some facts."""

    KIND = "alike"

    def __init__(self, one, other, rows, *, facts=()):
        super().__init__(one, other)
        self._rows = copied(rows)
        self._facts = copied(facts)

    def rows(self):
        """The list of the pairs of a key and a mean."""
        return listed(self._rows)

    def facts(self):
        """The list of the facts."""
        return listed(self._facts)

    def told(self):
        """The verdict in short, with the number of rows."""
        return f"{self.KIND} {length_of(self._rows)}"

    def holds(self):
        """Whether there are means for each two cases, and all of them show what they are to show."""
        if not fit(self._one, self._other) or not self._has_facts() or not self._has_pairs():
            return False
        try:
            pairing = Pairing(self._one, self._other, self._facts)
        except TooMany:
            return False
        means = {}
        for key, mean in self._rows:
            means.setdefault(key, mean)
        return all([_is_shown(pairing, duo, means) for duo in pairing.duos()])

    def _has_facts(self):
        if not isinstance(self._facts, (list, tuple)):
            return False
        return all([is_fact(fact, self._one.names(), self._one.layers) for fact in self._facts])

    def _has_pairs(self):
        return isinstance(self._rows, (list, tuple)) and all([_is_pair(row) for row in self._rows])

    def __bool__(self):
        return True


def _is_shown(pairing, duo, means):
    """Whether means show that two cases leave the same, or that no world goes both ways."""
    rows = pairing.duo_rows(duo)
    void = means.get(("void", *duo))
    if void is not None and void.shows(Form(), [], rows[0]):
        return True
    for side in SIDES:
        for key, form, forms in pairing.questions(duo, side):
            mean = means.get(key)
            if mean is None or not mean.shows(form, forms, rows[len(strangers_in(key))]):
                return False
    return True


class Parted(Verdict):
    """A world, and two places whose distances behind two scripts are unlike."""

    KIND = "parted"

    def __init__(self, one, other, world, start, goal, *, layer="foot"):
        super().__init__(one, other)
        self._world = copied(world)
        self.start = copied(start)
        self.goal = copied(goal)
        self.layer = copied(layer)

    @property
    def world(self):
        """The world ahead of the scripts."""
        return copied(self._world)

    def distances(self):
        """The pair of the distances behind both scripts, or None."""
        if not fit(self._one, self._other) or not self._has_world() or not is_layer(self.layer, self._one.layers):
            return None
        try:
            behind = [run(script, self._world) for script in (self._one, self._other)]
        except TooMany:
            return None
        if not all([is_number(place, 0, behind[0].size - 1) for place in (self.start, self.goal)]):
            return None
        one, other = [world.far(self.start, self.goal, layer=self.layer) for world in behind]
        return (one, other)

    def _has_world(self):
        world = self._world
        if not isinstance(world, World):
            return False
        return world.names() == self._one.names() and world.layers == self._one.layers

    def holds(self):
        """Whether the distances are unlike."""
        found = self.distances()
        return found is not None and found[0] != found[1]


class Exceeds(Parted):
    """A world, and two places whose distance is greater behind the first script."""

    KIND = "exceeds"

    def __init__(self, one, other, world, start, goal, *, layer="foot"):
        super().__init__(one, other, world, start, goal, layer=layer)

    def holds(self):
        """Whether the first distance is the greater one."""
        found = self.distances()
        return found is not None and is_less(found[1], found[0])
