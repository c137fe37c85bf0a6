"""The shapes of steps: what items stand behind their first words."""

from missingmiles.ratios import is_length, is_scale
from missingmiles.words import is_layer, is_name

# The leaves are all steps but `if` and `repeat`, which have steps in them. A "new" name is one that
# is not looked up among the names that are there.
SHAPES = {
    "road": ("layer", "name", "name", "length"),
    "ride": ("layer", "name", "name", "length"),
    "place": ("new", "name", "length", "length"),
    "same": ("name", "name"),
    "forget": ("name",),
    "cap": ("layer", "length"),
    "scale": ("layer", "scale"),
    "turn": (),
    "round": ("layer",),
}

# What stands behind the word `if`, ahead of its steps.
ASKED = ("layer", "name", "name", "length")


def is_item(kind, value, layers=2):
    """Whether any value is an item of a kind, on so many layers."""
    if kind == "layer":
        return is_layer(value, layers)
    if kind == "length":
        return is_length(value)
    if kind == "scale":
        return is_scale(value)
    return is_name(value)


def known_names(leaf):
    """The names in a leaf that are to be there already, in their order."""
    word, *items = leaf
    return [item for kind, item in zip(SHAPES[word], items) if kind == "name"]
