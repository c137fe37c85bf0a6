"""Scripts, worlds and facts that are drawn by a seeded random source, for tests that hold one thing beside another."""

from math import gcd

from missingmiles.errors import MilesError
from missingmiles.scripts import Script
from missingmiles.worlds import World

LAYERS = ("foot", "cart")


def draw_ratio(source, least=0):
    """A small ratio, or now and then a number in the place of one."""
    bottom = source.choice([1, 1, 1, 2, 3])
    top = source.randint(least, 6)
    shared = gcd(top, bottom)
    if bottom == shared and source.random() < 0.5:
        return top // shared
    return (top // shared, bottom // shared)


def draw_world(source, names, layers, size=None, most=8):
    """A world with some names, in which each distance is a shortest way."""
    size = size or source.randint(max(1, len(names)), 5)
    tables = []
    for _ in range(layers):
        table = [[0 if x == y else source.randint(0, most) for y in range(size)] for x in range(size)]
        for third in range(size):
            for x in range(size):
                for y in range(size):
                    table[x][y] = min(table[x][y], table[x][third] + table[third][y])
        tables.append(table)
    places = source.sample(range(size), len(names))
    return World(dict(zip(names, places)), tables[0], cart=tables[1] if layers == 2 else None)


class Steps:
    """Draws steps that keep to the names that are there."""

    def __init__(self, source, layers):
        self.source = source
        self.layers = LAYERS[:layers]

    def some(self, names, many, deep=1):
        """Some steps, and the names behind them."""
        steps = []
        for _ in range(many):
            step, names = self.one(list(names), deep)
            if step is not None:
                steps.append(step)
        return tuple(steps), names

    def one(self, names, deep):
        """A step and the names behind it, or None and the names."""
        source = self.source
        words = ["cap", "scale", "turn", "round"]
        if names:
            words += ["road"] * 5 + ["forget"] + ["ride"] * (3 if len(self.layers) == 2 else 0)
            words += ["place"] if deep == 1 else []
        if len(names) > 1:
            words += ["same"]
        if deep < 3:
            words += ["repeat"] + (["if"] * 3 if names else [])
        word = source.choice(words)
        if word in ("if", "repeat"):
            return self.branch(word, names, deep)
        return self.leaf(word, names)

    def leaf(self, word, names):
        source = self.source
        layer = source.choice(self.layers)
        if word in ("road", "ride"):
            return (word, layer, source.choice(names), source.choice(names), draw_ratio(source)), names
        if word == "place":
            name = source.choice("pqrab")
            if name in names:
                return None, names
            step = (word, name, source.choice(names), draw_ratio(source), draw_ratio(source))
            return step, [*names, name]
        if word == "same":
            kept, gone = source.sample(names, 2)
            return (word, kept, gone), [name for name in names if name != gone]
        if word == "forget":
            gone = source.choice(names)
            return (word, gone), [name for name in names if name != gone]
        if word == "turn":
            return (word,), names
        if word == "round":
            return (word, layer), names
        return (word, layer, draw_ratio(source, 1)), names

    def branch(self, word, names, deep):
        source = self.source
        first, behind = self.some(names, source.randint(0, 2), deep + 1)
        if word == "repeat":
            return (("repeat", source.randint(1, 2), first), names) if behind == names else (None, names)
        second, others = self.some(names, source.randint(0, 2), deep + 1)
        if sorted(behind) != sorted(others):
            return None, names
        asked = (source.choice(self.layers), source.choice(names), source.choice(names), draw_ratio(source))
        return ("if", *asked, first, second), behind


def draw_script(source, names, layers, many):
    """A script with up to so many steps."""
    while True:
        steps, _ = Steps(source, layers).some(names, source.randint(0, many))
        try:
            return Script(names, steps, layers=layers)
        except MilesError:
            continue


def draw_facts(source, names, layers):
    """Up to two facts."""
    facts = []
    for _ in range(source.choice([0, 0, 1, 2]) if len(names) > 1 else 0):
        parts = {}
        for _ in range(source.randint(1, 3)):
            start, goal = source.sample(names, 2)
            parts[(source.choice(LAYERS[:layers]), start, goal)] = source.choice([1, 1, 1, -1, 2])
        told = tuple((*key, factor) for key, factor in parts.items())
        facts.append((source.choice(["most", "least"]), told, draw_ratio(source)))
    return facts
