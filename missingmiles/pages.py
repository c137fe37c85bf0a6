"""Pages: atlases as texts, a line for the names, for each fact and for each script."""

from missingmiles.atlases import Atlas, atlas_of
from missingmiles.checks import check_names
from missingmiles.errors import InvalidPage, MilesError, Missing
from missingmiles.facts import is_fact
from missingmiles.ratios import ratio_or_none, ratio_text
from missingmiles.scripts import Script
from missingmiles.shelves import Shelf
from missingmiles.words import is_word

# The items of a part of a fact: a factor, a layer, a start and a goal.
PART = 4


def write_page(atlas):
    """The page of an atlas."""
    lines = [_first_line(atlas.names(), atlas.layers)]
    lines.extend([_fact_line(fact) for fact in atlas.facts()])
    lines.extend([_script_line(word, atlas.script(word)) for word in atlas.words()])
    return "".join([f"{line}\n" for line in lines])


def read_page(text):
    """The atlas with a page."""
    if not isinstance(text, str):
        raise InvalidPage(0)
    *lines, rest = text.split("\n")
    if rest or not lines:
        raise InvalidPage(len(lines))
    reader = PageReader(lines)
    return reader.atlas_read()


def _first_line(names, layers):
    return " ".join(["atlas", str(layers), *names])


def _fact_line(fact):
    word, parts, bound = fact
    words = ["fact", word, ratio_text(bound)]
    for layer, start, goal, factor in parts:
        words.extend([str(factor), layer, start, goal])
    return " ".join(words)


def _script_line(word, script):
    # A script without steps has an empty text, and a line ends with its last word.
    return " ".join([word, "=", *script.text().split()])


class PageReader:
    """Reads the lines of a page, up to the first one that cannot stand where it stands.

    Each line is read loosely and then written again: it is right if the same line comes out.
    """

    def __init__(self, lines):
        self._lines = list(lines)
        self._names = []
        self._layers = 1
        self._scripts = {}
        self._facts = []

    def atlas_read(self):
        """The atlas of all lines."""
        for at, line in enumerate(self._lines):
            if not self._reads(at, line):
                raise InvalidPage(at)
        shelf = Shelf(self._names, self._layers, self._scripts, self._facts)
        return atlas_of(shelf, self._names, self._layers, Atlas.MOST)

    def _reads(self, at, line):
        """Whether a line can stand there; if so, what it tells is noted."""
        words = line.split(" ")
        if at == 0:
            return self._reads_first(words, line)
        # Words of scripts may be `fact` and `atlas`, too, but only a line of a script goes on with `=`.
        if words[1:2] == ["="]:
            return self._reads_script(words, line)
        return self._reads_fact(words, line)

    def _reads_first(self, words, line):
        if words[1:2] not in (["1"], ["2"]):
            return False
        names = words[2:]
        try:
            check_names(names)
        except MilesError:
            return False
        self._names = sorted(names)
        self._layers = int(words[1])
        return line == _first_line(self._names, self._layers)

    def _reads_fact(self, words, line):
        fact = _fact_of(words[1:])
        if self._scripts or not is_fact(fact, self._names, self._layers):
            return False
        self._facts.append(fact)
        return line == _fact_line(fact)

    def _reads_script(self, words, line):
        word = words[0]
        if not is_word(word) or len(self._scripts) == Atlas.MOST or any([word <= other for other in self._scripts]):
            return False
        try:
            script = Script.read(self._names, " ".join(words[2:]), layers=self._layers)
        except (MilesError, Missing):
            return False
        self._scripts[word] = script
        return line == _script_line(word, script)


def _fact_of(words):
    """What the words behind the first one of a line tell, which may be a fact, or None."""
    if len(words) % PART != 2:
        return None
    word, bound, *others = words
    parts = []
    for at in range(0, len(others), PART):
        factor, layer, start, goal = others[at:at + PART]
        parts.append((layer, start, goal, _whole_or_none(factor)))
    return (word, tuple(parts), ratio_or_none(bound))


def _whole_or_none(text):
    """The number with a text, or None."""
    value = ratio_or_none(text)
    return value[0] if value is not None and value[1] == 1 else None
