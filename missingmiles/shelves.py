"""Shelves: the scripts and the facts that an atlas has at one time."""

from missingmiles.errors import UnknownScript
from missingmiles.facts import check_facts
from missingmiles.ratios import ratio_of
from missingmiles.scripts import Script


class Shelf:
    """Scripts by words, and facts, for some names and layers; a shelf never changes."""

    def __init__(self, names, layers, scripts, facts):
        self._names = list(names)
        self._layers = layers
        self._scripts = dict(scripts)
        self._facts = list(facts)

    def word_list(self):
        """The ascending list of the words."""
        return sorted(self._scripts)

    def fact_list(self):
        """The list of the facts."""
        return list(self._facts)

    def has(self, word):
        """Whether any value is the word of a script."""
        return isinstance(word, str) and word in self._scripts

    def script_at(self, word):
        """The script of a word, which may be any value."""
        if not self.has(word):
            raise UnknownScript(word)
        return self._scripts[word]

    def script_with(self, text):
        """The script with a text, for the names and layers of the shelf."""
        return Script.read(self._names, text, layers=self._layers)

    def with_script(self, word, script):
        """The shelf with a script put in, or in the place of the one of this word."""
        return Shelf(self._names, self._layers, {**self._scripts, word: script}, self._facts)

    def without_script(self, word):
        """The shelf without the script of a word, which may be any value."""
        if not self.has(word):
            raise UnknownScript(word)
        scripts = {other: self._scripts[other] for other in self._scripts if other != word}
        return Shelf(self._names, self._layers, scripts, self._facts)

    def with_facts(self, facts):
        """The shelf with other facts, which may be any values; their bounds become ratios."""
        check_facts(facts, self._names, self._layers)
        kept = [(word, parts, ratio_of(bound)) for word, parts, bound in facts]
        return Shelf(self._names, self._layers, self._scripts, kept)

    def is_alike_for(self, other, words):
        """Whether this shelf and another one have the same facts, and the same scripts for some words."""
        if self._facts != other._facts:
            return False
        return all([self.has(word) and other.has(word) and self._scripts[word] == other._scripts[word]
                    for word in words])

    def __eq__(self, other):
        return (isinstance(other, Shelf) and self._names == other._names and self._layers == other._layers
                and self._scripts == other._scripts and self._facts == other._facts)

    def __len__(self):
        return len(self._scripts)

    def __bool__(self):
        return True
