"""Atlases: scripts by words, facts, their history, and the answers that are kept."""

from missingmiles.checks import check_layers, check_names
from missingmiles.commands import is_command, shelf_behind
from missingmiles.comparing import are_alike
from missingmiles.errors import InvalidCommand, InvalidLimit
from missingmiles.histories import History
from missingmiles.ratios import is_number
from missingmiles.shelves import Shelf
from missingmiles.worlds import names_text


class Atlas:
    """Scripts with some names and layers, and facts; what was done to them can be undone."""

    MOST = 12

    def __init__(self, names, *, layers=1, limit=8):
        check_names(names)
        check_layers(layers)
        if not is_number(limit, 1, self.MOST):
            raise InvalidLimit(limit)
        self._names = sorted(names)
        self._layers = layers
        self._limit = limit
        self._history = History(Shelf(self._names, layers, {}, []))
        self._kept = {}
        self._computed = 0
        self._busy = False

    @property
    def layers(self):
        """The number of layers."""
        return self._layers

    @property
    def limit(self):
        """How many scripts there may be when one is put in."""
        return self._limit

    @limit.setter
    def limit(self, value):
        if not is_number(value, max(1, len(self._shelf())), self.MOST):
            raise InvalidLimit(value)
        self._limit = value

    def set_limit(self, value):
        """Assigns the limit."""
        self.limit = value

    def names(self):
        """The ascending list of the names."""
        return list(self._names)

    def words(self):
        """The ascending list of the words of the scripts."""
        return self._shelf().word_list()

    def apply(self, *commands):
        """Does some commands as one step, or none if one of them cannot be done."""
        for at, value in enumerate(commands):
            if not is_command(value):
                raise InvalidCommand(at)
        before = self._shelf()
        self._busy = True
        try:
            self._history.go_on(_states_behind(before, commands, self._limit))
        finally:
            self._busy = False
        self._drop_answers(before)

    def undo(self):
        """Undoes the last step."""
        before = self._shelf()
        self._history.go_back()
        self._drop_answers(before)

    def redo(self):
        """Does the step again that was undone last."""
        before = self._shelf()
        self._history.go_again()
        self._drop_answers(before)

    def history(self):
        """The pair of the numbers of steps that can be undone and redone."""
        return self._history.counts()

    @property
    def busy(self):
        """Whether commands are being done."""
        return self._busy

    def script(self, word):
        """The script of a word."""
        return self._shelf().script_at(word)

    def facts(self):
        """The list of the facts, with bounds as ratios."""
        return self._shelf().fact_list()

    def alike(self, one, other):
        """Whether the scripts of two words leave the same under the facts; the answer is kept."""
        shelf = self._shelf()
        first = shelf.script_at(one)
        second = shelf.script_at(other)
        pair = (one, other)
        if pair not in self._kept:
            self._kept[pair] = are_alike(first, second, facts=shelf.fact_list())
            self._computed += 1
        return self._kept[pair]

    def kept(self):
        """The ascending list of the pairs of words whose answers are kept."""
        return sorted(self._kept)

    @property
    def computed(self):
        """How many answers were computed without an error."""
        return self._computed

    def twin(self):
        """An independent atlas in the same state."""
        other = Atlas(self._names, layers=self._layers, limit=self._limit)
        other._history = self._history.twin_of()
        other._kept = {pair: self._kept[pair] for pair in self._kept}
        other._computed = self._computed
        return other

    def _shelf(self):
        """The present shelf."""
        return self._history.states[-1]

    def _drop_answers(self, before):
        """Drops the answers about what is not equal on the present shelf and on one before."""
        shelf = self._shelf()
        self._kept = {pair: self._kept[pair] for pair in self._kept if shelf.is_alike_for(before, pair)}

    def __contains__(self, word):
        return self._shelf().has(word)

    def __eq__(self, other):
        return isinstance(other, Atlas) and self._shelf() == other._shelf()

    def __len__(self):
        return len(self._history.states[-1])

    def __bool__(self):
        return True

    def __repr__(self):
        return f"Atlas({names_text(self._names)}: {len(self)} scripts)"


def _states_behind(shelf, commands, limit):
    """The list of the shelf behind some commands; without commands there is none."""
    behind = shelf
    for command in commands:
        behind = shelf_behind(behind, command, limit)
    return [behind] if commands else []


def atlas_of(shelf, names, layers, limit):
    """An atlas without steps, with what is on a shelf."""
    atlas = Atlas(names, layers=layers, limit=limit)
    atlas._history = History(shelf)
    return atlas
