"""Forms as vectors: tuples of a constant and a factor for each key, in whole numbers over a common bottom.

Steps make many forms of which few stay; whole numbers in tuples keep this fast.
"""

from math import lcm

from missingmiles.errors import TooMany
from missingmiles.forms import Form
from missingmiles.ratios import ratio, ratio_of
from missingmiles.shapes import SHAPES, inner_steps, times_of

MOST_FORMS = 200


def common_bottom(steps):
    """A number by which each form behind some steps becomes whole."""
    return _length_bottom(steps) * _scale_bottom(steps)


def _bottoms(step, kind):
    """The bottoms of the items of a kind in a step; none for one that has steps in it."""
    word, *items = step
    if word not in SHAPES:
        return []
    return [ratio_of(item)[1] for found, item in zip(SHAPES[word], items) if found == kind]


def _length_bottom(steps):
    bottom = 1
    for step in steps:
        for other in [*_bottoms(step, "length"), _length_bottom(inner_steps(step))]:
            bottom = lcm(bottom, other)
    return bottom


def _scale_bottom(steps):
    """The product of the bottoms, since one step `scale` may follow another one."""
    bottom = 1
    for step in steps:
        for _ in range(times_of(step)):
            for other in [*_bottoms(step, "scale"), _scale_bottom(inner_steps(step))]:
                bottom = bottom * other
    return bottom


class Frame:
    """The keys and the common bottom of vectors."""

    def __init__(self, keys, bottom):
        self._keys = list(keys)
        self._bottom = bottom

    def unit(self, key):
        """The vector of the form with one part."""
        return (0, *[self._bottom if other == key else 0 for other in self._keys])

    def flat(self, constant):
        """The vector of the form without parts."""
        top, bottom = ratio_of(constant)
        return (top * (self._bottom // bottom), *[0 for _ in self._keys])

    def form(self, vector):
        """The form with a vector."""
        constant, *factors = vector
        parts = [(key, ratio(factor, self._bottom)) for key, factor in zip(self._keys, factors) if factor > 0]
        return Form(ratio(constant, self._bottom), parts)


def plain_vectors(vectors):
    """The vectors of the plain forms of some forms."""
    unlike = list({vector: True for vector in vectors})
    kept = []
    # One that is under another one has the lesser sum, so it comes first.
    for vector in sorted(unlike, key=sum):
        if not _is_above_one(vector, kept):
            kept.append(vector)
        if len(kept) > MOST_FORMS:
            raise TooMany("forms", MOST_FORMS)
    return kept


# These two stop at the first number or vector that decides, since they are called very often.
def _is_above_one(vector, others):
    for other in others:
        if _is_under(other, vector):
            return True
    return False


def _is_under(one, other):
    for low, high in zip(one, other):
        if low > high:
            return False
    return True


def sums_of(ones, others):
    """The vectors of the plain sums of two forms, one of each."""
    return plain_vectors([_sum(one, other) for one in ones for other in others])


def _sum(one, other):
    return tuple([low + high for low, high in zip(one, other)])


def multiples_of(vectors, factor):
    """The vectors of the multiples of forms."""
    top, bottom = ratio_of(factor)
    return [tuple([number * top // bottom for number in vector]) for vector in vectors]
