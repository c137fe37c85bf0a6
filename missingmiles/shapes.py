"""The shapes of steps: what items stand behind their first words."""

from missingmiles.ratios import is_length, is_number, is_scale
from missingmiles.words import is_layer, is_name

# The leaves are all steps but `if` and `repeat`, which have steps in them. A "new" name is one that
# is not looked up among the names that are there.
SHAPES = {
    "road": ("layer", "name", "name", "length"),
    "ride": ("layer", "name", "name", "length"),
    "place": ("new", "name", "length", "length"),
    "same": ("name", "name"),
    "forget": ("name",),
    "cap": ("layer", "length"),
    "scale": ("layer", "scale"),
    "turn": (),
    "round": ("layer",),
}

# What stands behind the word `if`, ahead of its steps.
ASKED = ("layer", "name", "name", "length")

# The steps that have steps in them.
BRANCHES = {
    "if": ("layer", "name", "name", "length", "steps", "steps"),
    "repeat": ("times", "steps"),
}

MOST_TIMES = 3


def is_item(kind, value, layers=2):
    """Whether any value is an item of a kind, on so many layers."""
    if kind == "layer":
        return is_layer(value, layers)
    if kind == "length":
        return is_length(value)
    if kind == "scale":
        return is_scale(value)
    if kind == "times":
        return is_number(value, 1, MOST_TIMES)
    if kind == "steps":
        return isinstance(value, tuple)
    return is_name(value)


def are_items(kinds, values, layers=2):
    """Whether any values are items of some kinds, one of each."""
    return len(values) == len(kinds) and all([is_item(kind, value, layers) for kind, value in zip(kinds, values)])


def known_names(step):
    """The names in a step that are to be there already, in their order; not those in the steps in it."""
    word, *items = step
    kinds = BRANCHES[word] if word in BRANCHES else SHAPES[word]
    return [item for kind, item in zip(kinds, items) if kind == "name"]


def inner_steps(step):
    """The steps in a step; those of the second part of an `if` go on behind those of the first one."""
    if step[0] == "if":
        return (*step[-2], *step[-1])
    if step[0] == "repeat":
        return step[-1]
    return ()


def times_of(step):
    """How often the steps in a step are done."""
    return step[1] if step[0] == "repeat" else 1
