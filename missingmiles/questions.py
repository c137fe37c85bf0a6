"""Questions about the distances between some points in all worlds, as straight problems."""

from missingmiles.ratios import ONE, ZERO, difference
from missingmiles.straight import Problem
from missingmiles.worlds import world_of


def straight_row(keys, row):
    """The row of a problem, whose unknowns are the distances of the keys, for a row of two forms."""
    low, high, strict = row
    factors = [difference(low.factor(key), high.factor(key)) for key in keys]
    return (factors, difference(high.constant, low.constant), strict)


def problem_of(keys, rows):
    """The problem whose unknowns are the distances of the keys, with rows of forms."""
    return Problem(len(keys), [straight_row(keys, row) for row in rows])


def gap_problem(keys, form, forms, rows):
    """The problem with one unknown more, the gap: by so much, or more, a form is below all of some forms."""
    plain = [straight_row(keys, row) for row in rows]
    asked = [straight_row(keys, (form, other, False)) for other in forms]
    with_gap = [([*factors, ZERO], bound, strict) for factors, bound, strict in plain]
    with_gap.extend([([*factors, ONE], bound, strict) for factors, bound, strict in asked])
    return Problem(len(keys) + 1, with_gap)


def world_with(names, points, layers, keys, numbers):
    """The world whose places are some points, names among them, with distances by keys."""
    far = {key: number for key, number in zip(keys, numbers)}
    tables = [[[far.get((layer, start, goal), ZERO) for goal in points] for start in points] for layer in layers]
    return world_of({name: points.index(name) for name in names}, tables)
