"""Names, layers and strangers: the words by which places and distances are told."""

LAYERS = ("foot", "cart")
STRANGERS = ("?1", "?2")


def _are_letters(value, most):
    """Whether any value is a string of lowercase letters, from 1 to so many."""
    return isinstance(value, str) and len(value) <= most and value.isascii() and value.isalpha() and value.islower()


def is_name(value):
    """Whether any value is a name: 1 to 5 lowercase letters."""
    return _are_letters(value, 5)


def is_word(value):
    """Whether any value is a word for a script: 1 to 8 lowercase letters."""
    return _are_letters(value, 8)


def is_layer(value, layers=2):
    """Whether any value is one of the first so many layers."""
    return value in LAYERS[:layers]
