"""Copies of values, so that no list is shared between an object and its callers."""


def copied(value):
    """The value with new lists in the place of its lists, also of those in lists and tuples."""
    if isinstance(value, list):
        return [copied(item) for item in value]
    if isinstance(value, tuple):
        return tuple([copied(item) for item in value])
    return value


def listed(value):
    """A new list of the items of a list or tuple; any other value as it is."""
    if isinstance(value, (list, tuple)):
        return [copied(item) for item in value]
    return value


def length_of(value):
    """The number of items of a list or tuple, 0 for any other value."""
    return len(value) if isinstance(value, (list, tuple)) else 0
