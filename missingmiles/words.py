"""Names, layers and strangers: the words by which places and distances are told."""

LAYERS = ("foot", "cart")
STRANGERS = ("?1", "?2")


def is_name(value):
    """Whether any value is a name: 1 to 5 lowercase letters."""
    return isinstance(value, str) and len(value) <= 5 and value.isascii() and value.isalpha() and value.islower()


def is_layer(value, layers=2):
    """Whether any value is one of the first so many layers."""
    return value in LAYERS[:layers]
