"""The texts of steps."""

from missingmiles.errors import InvalidText
from missingmiles.ratios import ratio_or_none, ratio_text
from missingmiles.shapes import ASKED, SHAPES, is_item

MOST_OPEN = 12


def text_of(steps):
    """The text of a tuple of steps."""
    return " ".join(_words_of(steps))


def _words_of(steps):
    words = []
    for step in steps:
        if words:
            words.append(";")
        words.extend(_step_words(step))
    return words


def _step_words(step):
    word, *items = step
    if word == "if":
        *asked, first, second = items
        return [word, *_item_words(asked), *_bracketed(first), "else", *_bracketed(second)]
    if word == "repeat":
        many, inner = items
        return [word, *_item_words([many]), *_bracketed(inner)]
    return [word, *_item_words(items)]


def _item_words(items):
    return [item if isinstance(item, str) else ratio_text(item) for item in items]


def _bracketed(steps):
    return ["(", *_words_of(steps), ")"]


def read_steps(text):
    """The tuple of steps with a text."""
    if not isinstance(text, str):
        raise InvalidText(0)
    if not text:
        return ()
    reader = Reader(text.split(" "))
    return reader.all_steps()


class Reader:
    """Reads steps word by word, up to the first word that cannot stand where it stands."""

    def __init__(self, words):
        self._words = list(words)
        self._at = 0
        self._opened = 0

    def all_steps(self):
        """The steps that all of the words make."""
        steps = self._step_list()
        if self._at < len(self._words):
            raise InvalidText(self._at)
        return steps

    def _word(self):
        # An empty word cannot stand anywhere, so it can stand for the end as well.
        if self._at == len(self._words):
            return ""
        return self._words[self._at]

    def _pass(self, word):
        """Goes on behind a word that must stand here."""
        if self._word() != word:
            raise InvalidText(self._at)
        self._at += 1

    def _step_list(self):
        steps = [self._step()]
        while self._word() == ";":
            self._at += 1
            steps.append(self._step())
        return tuple(steps)

    def _step(self):
        word = self._word()
        if word == "if":
            return self._if()
        if word == "repeat":
            return self._repeat()
        if word not in SHAPES:
            raise InvalidText(self._at)
        self._at += 1
        items = []
        for kind in SHAPES[word]:
            if word == "same" and self._word() in items:
                raise InvalidText(self._at)
            items.append(self._item(kind))
        return (word, *items)

    def _if(self):
        self._pass("if")
        asked = [self._item(kind) for kind in ASKED]
        first = self._part()
        self._pass("else")
        second = self._part()
        return ("if", *asked, first, second)

    def _repeat(self):
        self._pass("repeat")
        word = self._word()
        if word not in ("1", "2", "3"):
            raise InvalidText(self._at)
        self._at += 1
        return ("repeat", int(word), self._part())

    def _part(self):
        """The steps between brackets."""
        if self._opened == MOST_OPEN:
            raise InvalidText(self._at)
        self._pass("(")
        self._opened += 1
        steps = () if self._word() == ")" else self._step_list()
        self._pass(")")
        self._opened -= 1
        return steps

    def _item(self, kind):
        """The item that the next word is."""
        value = self._word()
        if kind in ("length", "scale"):
            value = ratio_or_none(value)
        if not is_item(kind, value):
            raise InvalidText(self._at)
        self._at += 1
        return value
