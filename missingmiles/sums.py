"""Lists of ratios, and their weighted sums."""

from missingmiles.ratios import added, can_be_ratio, is_ratio, multiplied, ratio_of


def are_factors(value, many):
    """Whether any value is a list of so many ratios, or numbers in their places."""
    return isinstance(value, (list, tuple)) and len(value) == many and all([can_be_ratio(item) for item in value])


def are_weights(value, many):
    """Whether any value is a list of so many ratios of at least 0; a number is none."""
    if not isinstance(value, (list, tuple)) or len(value) != many:
        return False
    return all([is_ratio(item) and item[0] >= 0 for item in value])


def ratios_of(factors):
    """The list of the ratios for some ratios or numbers."""
    return [ratio_of(factor) for factor in factors]


def weighted(factors, values):
    """The sum of some values, each times its factor."""
    terms = [multiplied(factor, value) for factor, value in zip(factors, values)]
    return added(*terms)


def weighted_row(rows, weights, size):
    """The factors and the bound of the weighted sum of rows of so many unknowns."""
    factors = [weighted([row[0][k] for row in rows], weights) for k in range(size)]
    bound = weighted([row[1] for row in rows], weights)
    return factors, bound
