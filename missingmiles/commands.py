"""The commands of an atlas: what they look like, and what they make of a shelf."""

from missingmiles.errors import Full, InvalidName
from missingmiles.words import is_word

# How many items a command has; `facts` has any number of them.
SIZES = {"put": 3, "join": 4, "drop": 2}


def is_command(value):
    """Whether any value is a tuple of the form of a command, whatever stands behind its first item."""
    if not isinstance(value, tuple) or not value or not isinstance(value[0], str):
        return False
    word = value[0]
    return word == "facts" or word in SIZES and len(value) == SIZES[word]


def shelf_behind(shelf, command, limit):
    """The shelf behind a command, if there may be so many scripts."""
    action = ACTIONS[command[0]]
    return action(shelf, command, limit)


def _check_room(shelf, word, limit):
    """Checks any value as a word under which a script is put."""
    if not is_word(word):
        raise InvalidName(word)
    if not shelf.has(word) and len(shelf) >= limit:
        raise Full(limit)


def _put(shelf, command, limit):
    _, word, text = command
    _check_room(shelf, word, limit)
    return shelf.with_script(word, shelf.script_with(text))


def _join(shelf, command, limit):
    _, word, one, other = command
    _check_room(shelf, word, limit)
    first = shelf.script_at(one)
    second = shelf.script_at(other)
    return shelf.with_script(word, first + second)


def _drop(shelf, command, _):
    return shelf.without_script(command[1])


def _facts(shelf, command, _):
    return shelf.with_facts(command[1:])


ACTIONS = {"put": _put, "join": _join, "drop": _drop, "facts": _facts}
