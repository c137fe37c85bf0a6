"""Journeys: one told world, led on by steps that can be undone and redone."""

from missingmiles.errors import InvalidStep
from missingmiles.histories import History
from missingmiles.ratios import is_less
from missingmiles.steps import changed, is_leaf
from missingmiles.words import LAYERS


class Journey:
    """The steps that a world was led by, and the worlds behind them.

    A state of its history is a pair of a step and the world behind it; the first one has no step.
    """

    def __init__(self, world):
        self._history = History((None, world))
        self._busy = False

    def go(self, *steps):
        """Does some steps, or none if one of them cannot be done."""
        _, world = self._history.states[-1]
        for at, step in enumerate(steps):
            if not is_leaf(step, world.layers):
                raise InvalidStep((at,))
        self._busy = True
        try:
            self._history.go_on(_states_behind(world, steps))
        finally:
            self._busy = False

    def undo(self):
        """Undoes the last step."""
        self._history.go_back()

    def redo(self):
        """Does the step again that was undone last."""
        self._history.go_again()

    @property
    def world(self):
        """The present world."""
        return self._history.states[-1][1]

    @property
    def busy(self):
        """Whether steps are being done."""
        return self._busy

    def history(self):
        """The pair of the numbers of steps that can be undone and redone."""
        return self._history.counts()

    def log(self):
        """The list of the steps that are done."""
        return [step for step, _ in self._history.states[1:]]

    def stations(self):
        """Generates the worlds from the first one to the present one."""
        for _, world in list(self._history.states):
            yield world

    def gains(self):
        """The list of (layer, start, goal) of the places whose distance is now less than at first."""
        first = self._history.states[0][1]
        present = self._history.states[-1][1]
        places = list(range(first.size))
        found = []
        for layer in LAYERS[:first.layers]:
            before, now = first.table(layer), present.table(layer)
            found.extend([(layer, start, goal) for start in places for goal in places
                          if is_less(now[start][goal], before[start][goal])])
        return found

    def twin(self):
        """An independent journey in the same state."""
        other = Journey(self._history.states[0][1])
        other._history = self._history.twin_of()
        return other

    def __len__(self):
        return len(self._history.states[1:])

    def __bool__(self):
        return True

    def __repr__(self):
        return f"Journey({len(self)} steps)"


def _states_behind(world, steps):
    """The pairs of a step and the world behind it, for some steps one after the other."""
    states = []
    present = world
    for step in steps:
        present = changed(present, step)
        states.append((step, present))
    return states
