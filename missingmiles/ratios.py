"""Ratios: tuples (top, bottom) of numbers in lowest terms, with a bottom of at least 1."""

from math import gcd

from missingmiles.errors import InvalidRatio

MOST_FIGURES = 60

ZERO = (0, 1)
ONE = (1, 1)


def _is_whole(value):
    return isinstance(value, int) and not isinstance(value, bool)


def is_number(value, least, most):
    """Whether any value is a number from least to most."""
    return _is_whole(value) and least <= value <= most


def is_ratio(value):
    """Whether any value is a ratio; a number is none."""
    if not isinstance(value, tuple) or len(value) != 2:
        return False
    top, bottom = value
    return _is_whole(top) and _is_whole(bottom) and bottom >= 1 and gcd(top, bottom) == 1


def can_be_ratio(value):
    """Whether any value is a ratio, or a number in the place of one."""
    return _is_whole(value) or is_ratio(value)


def is_length(value):
    """Whether any value is a ratio of at least 0, or a number in the place of one."""
    return can_be_ratio(value) and ratio_of(value)[0] >= 0


def is_scale(value):
    """Whether any value is a ratio above 0, or a number in the place of one."""
    return can_be_ratio(value) and ratio_of(value)[0] > 0


def _lowest(top, bottom):
    """The ratio of two numbers, with a bottom of at least 1."""
    shared = gcd(top, bottom)
    return (top // shared, bottom // shared)


def ratio(top, bottom=1):
    """The ratio of two numbers, also with a bottom below 0."""
    for value in (top, bottom):
        if not _is_whole(value):
            raise InvalidRatio(value)
    if bottom == 0:
        raise InvalidRatio(0)
    if bottom < 0:
        return _lowest(-top, -bottom)
    return _lowest(top, bottom)


def ratio_of(value):
    """The ratio for a ratio or for a number in the place of one."""
    if _is_whole(value):
        return (value, 1)
    if not is_ratio(value):
        raise InvalidRatio(value)
    return value


def added(*values):
    """The sum of any number of ratios."""
    total = ZERO
    for value in values:
        top, bottom = ratio_of(value)
        total = _lowest(total[0] * bottom + top * total[1], total[1] * bottom)
    return total


def multiplied(*values):
    """The product of any number of ratios."""
    product = ONE
    for value in values:
        top, bottom = ratio_of(value)
        product = _lowest(product[0] * top, product[1] * bottom)
    return product


def difference(one, other):
    """One ratio less another one."""
    return added(one, multiplied(other, -1))


def is_less(one, other):
    """Whether one ratio is less than another one."""
    top, bottom = ratio_of(one)
    other_top, other_bottom = ratio_of(other)
    return top * other_bottom < other_top * bottom


def least_of(first, *others):
    """The least of some ratios."""
    least = first
    for value in others:
        if is_less(value, least):
            least = value
    return least


def _figures(number):
    """The figures of a number of at least 0; Python refuses to write very long ones at once."""
    pieces = []
    while number >= 10 ** 60:
        number, piece = divmod(number, 10 ** 60)
        pieces.append(str(piece).zfill(60))
    pieces.append(str(number))
    return "".join(pieces[::-1])


def ratio_text(value):
    """The text of a ratio: the top, and the bottom unless it is 1."""
    top, bottom = ratio_of(value)
    sign = "-" if top < 0 else ""
    text = sign + _figures(abs(top))
    if bottom == 1:
        return text
    return text + "/" + _figures(bottom)


def _are_figures(text):
    return text.isascii() and text.isdigit() and len(text) <= MOST_FIGURES


def read_ratio(text):
    """The ratio with a text."""
    if not isinstance(text, str):
        raise InvalidRatio(text)
    top, slash, bottom = text.partition("/")
    if not slash:
        bottom = "1"
    if _are_figures(top.removeprefix("-")) and _are_figures(bottom):
        value = (int(top), int(bottom))
        # What is not written back alike has a needless zero, is not in lowest terms, or the like.
        if is_ratio(value) and ratio_text(value) == text:
            return value
    raise InvalidRatio(text)


def ratio_or_none(text):
    """The ratio with a text, or None for any other value."""
    try:
        return read_ratio(text)
    except InvalidRatio:
        return None
