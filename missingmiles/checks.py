"""What is checked of the names, the layers and the steps of a script, before it runs."""

from missingmiles.errors import (DuplicateName, InvalidName, InvalidNumber, InvalidStep, TooMany, UnknownName,
                                 UnlikeEnds)
from missingmiles.ratios import is_number
from missingmiles.shapes import BRANCHES, are_items, inner_steps, known_names, times_of
from missingmiles.steps import is_leaf
from missingmiles.words import is_name
from missingmiles.worlds import MOST_NAMES

MOST_AT_FIRST = 3
MOST_DEEP = 3


def check_names(names):
    """Checks any values as the names with which a script begins."""
    for name in names:
        if not is_name(name):
            raise InvalidName(name)
    for at, name in enumerate(names):
        if name in names[:at]:
            raise DuplicateName(name)
    if len(names) > MOST_AT_FIRST:
        raise TooMany("names", MOST_AT_FIRST)


def check_layers(layers):
    """Checks any value as the number of layers."""
    if not is_number(layers, 1, 2):
        raise InvalidNumber(layers)


def _is_step(value, layers):
    """Whether any value is of the form of a step, whatever the steps in it are."""
    if is_leaf(value, layers):
        return True
    if not isinstance(value, tuple) or not value or not isinstance(value[0], str):
        return False
    word, *items = value
    return word in BRANCHES and are_items(BRANCHES[word], items, layers)


def check_steps(values, layers, path=()):
    """Checks the form of any values, each step ahead of those in it; the path leads to them."""
    for at, value in enumerate(values):
        here = (*path, at)
        if len(here) > MOST_DEEP or not _is_step(value, layers):
            raise InvalidStep(here)
        check_steps(inner_steps(value), layers, here)


def count_steps(steps):
    """How many steps are done, with both parts of each `if`."""
    return sum([1 + times_of(step) * count_steps(inner_steps(step)) for step in steps])


def count_word(steps, word):
    """How many steps of a word are done, with both parts of each `if`."""
    here = [1 for step in steps if step[0] == word]
    inside = [times_of(step) * count_word(inner_steps(step), word) for step in steps]
    return len(here) + sum(inside)


def names_behind(names, steps, path=(), first=0):
    """The names behind steps, with the errors on the way; the steps are counted from a first index on."""
    there = names
    for at, step in enumerate(steps, start=first):
        there = _names_behind_step(there, step, (*path, at))
    return there


def _names_behind_step(names, step, path):
    for name in known_names(step):
        if name not in names:
            raise UnknownName(name)
    word = step[0]
    if word == "if":
        return _names_behind_if(names, step, path)
    if word == "repeat":
        return _names_behind_repeat(names, step, path)
    if word == "place":
        return _names_with(names, step[1])
    if word in ("same", "forget"):
        return [name for name in names if name != step[-1]]
    return names


def _names_behind_if(names, step, path):
    one, other = step[-2:]
    ends = names_behind(names, one, path)
    # Without a `place` both parts only leave names out, so the same names stand in the same order.
    if names_behind(names, other, path, len(one)) != ends or count_word((step,), "place"):
        raise UnlikeEnds(path)
    return ends


def _names_behind_repeat(names, step, path):
    there = names
    for _ in range(times_of(step)):
        there = names_behind(there, inner_steps(step), path)
    return there


def _names_with(names, name):
    if name in names:
        raise DuplicateName(name)
    if len(names) == MOST_NAMES:
        raise TooMany("names", MOST_NAMES)
    return [*names, name]
