"""Scripts: steps for all worlds with some names, checked before they run."""

from missingmiles.checks import check_layers, check_names, check_steps, count_steps, count_word, names_behind
from missingmiles.errors import InvalidNumber, TooMany, UnlikeScripts, UnlikeWorlds
from missingmiles.ratios import is_less, is_number
from missingmiles.shapes import MOST_TIMES, inner_steps, times_of
from missingmiles.steps import changed
from missingmiles.texts import read_steps, text_of
from missingmiles.worlds import names_text

MOST_PUTS = 3


class Script:
    """Steps for all worlds with just some names and so many layers."""

    MOST = 12
    TESTS = 3

    def __init__(self, names, steps=(), *, layers=1):
        check_names(names)
        check_layers(layers)
        check_steps(steps, layers)
        self._names = sorted(names)
        self._layers = layers
        self._steps = tuple(steps)
        self._tests = count_word(steps, "if")
        self._puts = count_word(steps, "place")
        if count_steps(steps) > self.MOST:
            raise TooMany("steps", self.MOST)
        if self._tests > self.TESTS:
            raise TooMany("tests", self.TESTS)
        if self._puts > MOST_PUTS:
            raise TooMany("puts", MOST_PUTS)
        self._ends = sorted(names_behind(self._names, steps))
        self._text = text_of(steps)

    @staticmethod
    def read(names, text, *, layers=1):
        """The script whose steps have a text."""
        return Script(names, read_steps(text), layers=layers)

    @property
    def layers(self):
        """The number of layers."""
        return self._layers

    @property
    def tests(self):
        """The number of tests, with both parts of each `if`."""
        return self._tests

    @property
    def puts(self):
        """The number of places that are put in."""
        return self._puts

    def names(self):
        """The ascending list of the names at the beginning."""
        return list(self._names)

    def ends(self):
        """The ascending list of the names at the end."""
        return list(self._ends)

    def steps(self):
        """The tuple of the steps."""
        return self._steps

    def text(self):
        """The text of the steps."""
        return self._text

    def without(self, at):
        """The script without the step at an index."""
        self._check_index(at, 0)
        return self._with_steps((*self._steps[:at], *self._steps[at + 1:]))

    def swapped(self, at):
        """The script with the step at an index and the next one exchanged."""
        self._check_index(at, 1)
        one, other = self._steps[at:at + 2]
        return self._with_steps((*self._steps[:at], other, one, *self._steps[at + 2:]))

    def _check_index(self, at, more):
        """Checks that any value is an index with so many more behind it."""
        if not is_number(at, 0, len(self._steps) - 1 - more):
            raise InvalidNumber(at)

    def _with_steps(self, steps):
        return Script(self._names, steps, layers=self._layers)

    def __add__(self, other):
        if self._ends != other._names or self._layers != other._layers:
            raise UnlikeScripts()
        return self._with_steps((*self._steps, *other._steps))

    def __mul__(self, other):
        if not is_number(other, 1, MOST_TIMES):
            raise InvalidNumber(other)
        return self._with_steps((("repeat", other, self._steps),))

    def __eq__(self, other):
        return (isinstance(other, Script) and self._names == other._names and self._layers == other._layers
                and self._text == other._text)

    def __len__(self):
        return len(self._steps)

    def __bool__(self):
        return True

    def __repr__(self):
        return f"Script({names_text(self._names)}: {len(self._steps)} steps)"


def run(script, world):
    """The world behind a script."""
    behind = world
    for _, reached in trace(script, world):
        behind = reached
    return behind


def trace(script, world):
    """Generates the pairs of a step that is done and the world behind it."""
    if world.names() != script.names() or world.layers != script.layers:
        raise UnlikeWorlds()
    present = world
    pending = list(script.steps())
    while pending:
        step, *rest = pending
        if step[0] in ("if", "repeat"):
            pending = [*_chosen_steps(step, present), *rest]
            continue
        present = changed(present, step)
        yield (step, present)
        pending = rest


def _chosen_steps(step, world):
    """The steps in a step that are done in a world."""
    if step[0] == "repeat":
        return inner_steps(step) * times_of(step)
    _, layer, start, goal, most, near, far = step
    if is_less(most, world.far(start, goal, layer=layer)):
        return far
    return near
