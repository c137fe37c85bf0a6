"""Asking whether a form can be below all of some forms, and how far.

A mean shows that it cannot, or a world that it can.
"""

from missingmiles.forms import keys_of
from missingmiles.means import Mean
from missingmiles.questions import gap_problem, problem_of, world_with
from missingmiles.ratios import ONE, ZERO, added, multiplied, ratio
from missingmiles.words import LAYERS, STRANGERS


def _mean_of(weights, many):
    """The mean for the weights of a Barred, of which the last so many are those of forms."""
    at = len(weights) - many
    sums, form_weights = weights[:at], weights[at:]
    top, bottom = added(*form_weights)
    if top > 0:
        share = ratio(bottom, top)
        sums = [multiplied(weight, share) for weight in sums]
        form_weights = [multiplied(weight, share) for weight in form_weights]
    return Mean(form_weights, sums)


def _plain_mean(form, forms, rows):
    """A mean of one of the forms that is under the form, or None."""
    for at, other in enumerate(forms):
        if other.is_under(form):
            return Mean([ONE if k == at else ZERO for k in range(len(forms))], [ZERO for _ in rows])
    return None


class Ground:
    """The worlds of some names, strangers and layers."""

    def __init__(self, names, strangers, layers):
        self._names = list(names)
        self._points = [*names, *strangers]
        self._layers = LAYERS[:layers]
        self._keys = keys_of(self._points, self._layers)

    def mean_or_world(self, form, forms, rows):
        """A mean that shows that the rows bar the form from being below all forms, or a world where it is."""
        plain = _plain_mean(form, forms, rows)
        if plain is not None:
            return plain
        return self._answered([*rows, *[(form, other, True) for other in forms]], len(forms))

    def void_mean(self, rows):
        """A mean that shows that no world keeps some rows, or None."""
        answer = problem_of(self._keys, rows).solve()
        return None if answer else _mean_of(answer.weights(), 0)

    def _answered(self, rows, many):
        answer = problem_of(self._keys, rows).solve()
        if not answer:
            return _mean_of(answer.weights(), many)
        return self.world_at(answer.numbers())

    def greatest_gap(self, form, forms, rows):
        """What is told of the greatest number by which the form is below all forms; a Barred if it never is."""
        only_gap = [*[ZERO for _ in self._keys], ONE]
        return gap_problem(self._keys, form, forms, rows).greatest(only_gap)

    def world_at(self, numbers):
        """The world with some numbers for its distances; what is told behind them does not count."""
        return world_with(self._names, self._points, self._layers, self._keys, numbers)


def grounds_of(script):
    """The grounds of the names of a script without strangers, with the first one, and with both."""
    return [Ground(script.names(), STRANGERS[:many], script.layers) for many in range(len(STRANGERS) + 1)]
