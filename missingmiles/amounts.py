"""By how much a distance behind one script can be greater than behind another one."""

from missingmiles.asking import grounds_of
from missingmiles.cases import cases
from missingmiles.copies import copied
from missingmiles.errors import HasTests, TooMany, UnlikeScripts
from missingmiles.forms import Form
from missingmiles.pairings import (Pairing, fit, is_world_for, looked_at, places_behind, places_of_strangers,
                                   strangers_in)
from missingmiles.ratios import ZERO, difference, is_less, is_ratio, least_of, ratio_text
from missingmiles.scripts import Script
from missingmiles.straight import Endless, Top
from missingmiles.verdicts import Parted, Verdict
from missingmiles.words import is_layer

# Two scripts without tests have one case each.
ONLY = (0, 0)


class Amount(Parted):
    """A world, two places, and by how much their distance is greater behind the first script."""

    KIND = "amount"

    def __init__(self, one, other, number, world, start, goal, *, layer="foot"):
        super().__init__(one, other, world, start, goal, layer=layer)
        self.number = copied(number)

    def told(self):
        """The verdict in short, with the text of the number."""
        if is_ratio(self.number):
            return f"{self.KIND} {ratio_text(self.number)}"
        return self.KIND

    def holds(self):
        """Whether the first distance less the second one is the number."""
        found = self.distances()
        return found is not None and is_ratio(self.number) and difference(found[0], found[1]) == self.number


class Growing(Verdict):
    """What can be added to a world any number of times, and two points whose distances grow apart."""

    KIND = "growing"

    def __init__(self, one, other, growth, start, goal, *, layer="foot"):
        super().__init__(one, other)
        self._growth = copied(growth)
        self.start = copied(start)
        self.goal = copied(goal)
        self.layer = copied(layer)

    @property
    def growth(self):
        """The world whose distances are added."""
        return copied(self._growth)

    def slopes(self):
        """The pair of what the distances behind both scripts grow by at last, or None."""
        if not fit(self._one, self._other) or self._one.tests or self._other.tests:
            return None
        try:
            one, other = cases(self._one)[0], cases(self._other)[0]
        except TooMany:
            return None
        if (self.start, self.goal) not in looked_at(one.points()) or not is_layer(self.layer, self._one.layers):
            return None
        if not is_world_for(self._growth, self._one, self.start, self.goal):
            return None
        return (self._slope(one), self._slope(other))

    def _slope(self, case):
        """The least value of the forms without their constants in the growth."""
        places = places_of_strangers(self._one, self.start, self.goal)
        forms = case.forms(self.start, self.goal, layer=self.layer)
        values = [Form(0, form.parts()).value(self._growth, *places) for form in forms]
        return least_of(*values)

    def holds(self):
        """Whether the slope behind the first script is the greater one."""
        found = self.slopes()
        return found is not None and is_less(found[1], found[0])


def most_over(one, other):
    """The greatest Amount by which a distance behind one script is above that behind another one, or a Growing."""
    if not fit(one, other):
        raise UnlikeScripts()
    if one.tests or other.tests:
        raise HasTests()
    pairing = Pairing(one, other, ())
    grounds = grounds_of(one)
    rows = pairing.duo_rows(ONLY)
    most = _nothing_over(one, other, grounds[1])
    for key, form, forms in pairing.questions(ONLY, "other"):
        # Where a form is under this one, the first distance is never the greater one.
        if any([under.is_under(form) for under in forms]):
            continue
        many = len(strangers_in(key))
        found = _over(one, other, key, grounds[many], grounds[many].greatest_gap(form, forms, rows[many]))
        if isinstance(found, Growing):
            return found
        if found is not None and is_less(most.number, found.number):
            most = found
    return most


def most_saved(script):
    """By how much a script can make a distance less, at most."""
    return most_over(Script(script.names(), (), layers=script.layers), script)


def _nothing_over(one, other, ground):
    """The Amount 0 of a place and itself."""
    return Amount(one, other, ZERO, ground.world_at([]), 0, 0)


def _over(one, other, key, ground, answer):
    """The verdict for what is told of the greatest gap at a key, or None."""
    layer, start, goal = key[3:6]
    if isinstance(answer, Endless):
        return Growing(one, other, ground.world_at(answer.direction()), start, goal, layer=layer)
    if isinstance(answer, Top):
        world = ground.world_at(answer.numbers())
        first, last = places_behind(one, start, goal)
        return Amount(one, other, answer.number, world, first, last, layer=layer)
    return None
