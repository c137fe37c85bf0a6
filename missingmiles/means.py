"""Means: weights that show by sums alone that a form is nowhere below all of some forms."""

from missingmiles.copies import copied, length_of, listed
from missingmiles.ratios import ONE, ZERO, added, is_ratio, multiplied
from missingmiles.sums import are_weights


class Mean:
    """Weights of forms, and sums: the weights of the rows that a world keeps."""

    def __init__(self, weights, sums):
        self._weights = listed(weights)
        self._sums = listed(sums)

    def weights(self):
        """The list of the weights of the forms."""
        return copied(self._weights)

    def sums(self):
        """The list of the weights of the rows."""
        return copied(self._sums)

    def shows(self, form, forms, rows, *, shift=0):
        """Whether the rows bar the form, plus the shift, from being below all of the forms."""
        if not are_weights(self._weights, len(forms)) or not are_weights(self._sums, len(rows)):
            return False
        weights = self._weights
        total = added(*weights)
        constant, factors = _balance(self._terms(total, form, forms, rows))
        constant = added(constant, multiplied(total, shift))
        if any([factor[0] < 0 for factor in factors]):
            return False
        if total == ONE:
            return constant[0] >= 0
        is_strict = any([row[2] and weight[0] > 0 for row, weight in zip(rows, self._sums)])
        return total == ZERO and (constant[0] > 0 or constant[0] == 0 and is_strict)

    def _terms(self, total, form, forms, rows):
        """The pairs of a factor and a form that are summed up."""
        terms = [(total, form)]
        for weight, other in zip(self._weights, forms):
            terms.append((multiplied(weight, -1), other))
        for weight, (low, high, _) in zip(self._sums, rows):
            terms.append((weight, low))
            terms.append((multiplied(weight, -1), high))
        return [term for term in terms if term[0] != ZERO]

    def is_void(self):
        """Whether the weights are a list in which there is nothing but the ratio 0."""
        if not isinstance(self._weights, list):
            return False
        return all([is_ratio(weight) and weight[0] == 0 for weight in self._weights])

    def __eq__(self, other):
        return isinstance(other, Mean) and self._weights == other._weights and self._sums == other._sums

    def __repr__(self):
        return f"Mean({length_of(self._weights)} forms)"


def _balance(terms):
    """The constant and the factors of the keys in a sum of forms, each times a factor."""
    constant = ZERO
    factors = {}
    for factor, form in terms:
        constant = added(constant, multiplied(factor, form.constant))
        for key, part in form.parts():
            factors[key] = added(factors.get(key, ZERO), multiplied(factor, part))
    return constant, list(factors.values())
