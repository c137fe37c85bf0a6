"""Desks: lines of words that ask an atlas, or change it, and their answers."""

from missingmiles.amounts import Amount, most_over
from missingmiles.comparing import never_longer
from missingmiles.errors import MilesError, Missing, NothingLeft
from missingmiles.lists import shortest
from missingmiles.ratios import ratio_text

# How many words a line may have behind its first one; behind `put` there is any number of them from 1 on.
SIZES = {
    "words": (0,),
    "show": (1,),
    "ends": (1,),
    "alike": (2,),
    "longer": (2,),
    "over": (2,),
    "forms": (3, 4),
    "join": (3,),
    "drop": (1,),
    "undo": (0,),
    "redo": (0,),
}


class Desk:
    """Answers lines about an atlas, and logs them."""

    def __init__(self, atlas):
        self._atlas = atlas
        self._lines = []

    def say(self, line):
        """The answer to a line."""
        answer = _answer(self._atlas, line)
        self._lines.append((line, answer))
        return answer

    def __call__(self, line):
        return self.say(line)

    @property
    def atlas(self):
        """The atlas that is asked and changed."""
        return self._atlas

    def log(self):
        """The list of the pairs of a line and its answer."""
        return list(self._lines)

    def __len__(self):
        return len(self._lines)

    def __bool__(self):
        return True

    def __repr__(self):
        return f"Desk({len(self._lines)} lines)"


def _answer(atlas, line):
    """The answer to a line, whatever it is."""
    word, *rest = line.split(" ")
    if "\n" in line or "" in rest or not _is_form(word, len(rest)):
        return "unknown"
    action = ACTIONS[word]
    try:
        return action(atlas, rest)
    except (MilesError, Missing, NothingLeft) as e:
        return f"error {e.code}"


def _is_form(word, many):
    """Whether a line may have this first word and so many words behind it."""
    if word == "put":
        return many > 0
    return many in SIZES.get(word, ())


def _words(atlas, _):
    return " ".join(atlas.words()) or "none"


def _show(atlas, rest):
    return atlas.script(rest[0]).text() or "nothing"


def _ends(atlas, rest):
    return " ".join(atlas.script(rest[0]).ends()) or "none"


def _alike(atlas, rest):
    one, other = rest
    return "alike" if atlas.alike(one, other) else "differ"


def _two_scripts(atlas, rest):
    """The scripts of two words, of which the first one is looked for first."""
    one, other = rest
    first = atlas.script(one)
    return first, atlas.script(other)


def _longer(atlas, rest):
    one, other = _two_scripts(atlas, rest)
    return "never" if never_longer(one, other, facts=atlas.facts()) is None else "sometimes"


def _over(atlas, rest):
    one, other = _two_scripts(atlas, rest)
    found = most_over(one, other)
    return ratio_text(found.number) if isinstance(found, Amount) else "endless"


def _forms(atlas, rest):
    word, start, goal, *layers = rest
    layer = layers[0] if layers else "foot"
    found = shortest(atlas.script(word), start, goal, layer=layer)
    return " | ".join([form.text() for form in found.forms()])


def _put(atlas, rest):
    word, *others = rest
    return _done(atlas, ("put", word, " ".join(others)))


def _join(atlas, rest):
    return _done(atlas, ("join", *rest))


def _drop(atlas, rest):
    return _done(atlas, ("drop", *rest))


def _done(atlas, command):
    """Does a command."""
    atlas.apply(command)
    return "done"


def _undo(atlas, _):
    atlas.undo()
    return "done"


def _redo(atlas, _):
    atlas.redo()
    return "done"


ACTIONS = {
    "words": _words,
    "show": _show,
    "ends": _ends,
    "alike": _alike,
    "longer": _longer,
    "over": _over,
    "forms": _forms,
    "put": _put,
    "join": _join,
    "drop": _drop,
    "undo": _undo,
    "redo": _redo,
}
