"""Promise [7] as `changed` keeps it, and the entry of missingmiles/steps.py."""

import unittest
from fractions import Fraction
from random import Random

from missingmiles.errors import DuplicateName, InvalidStep, TooMany, UnknownName
from missingmiles.ratios import ratio
from missingmiles.steps import changed, is_leaf
from missingmiles.worlds import World
from tests.helpers import ODD_VALUES, raised

FOOT = [[0, 4, 5], [7, 0, 3], [6, 2, 0]]
CART = [[0, 1, 2], [1, 0, 1], [(3, 2), (1, 2), 0]]

LEAVES = [
    ("road", "foot", "a", "b", 0), ("road", "foot", "a", "a", (1, 2)), ("road", "foot", "zzzzz", "b", 10 ** 29),
    ("place", "p", "a", 0, (3, 4)), ("place", "a", "a", 1, 1), ("same", "a", "b"), ("forget", "a"),
    ("cap", "foot", 0), ("cap", "foot", (7, 3)), ("scale", "foot", 1), ("scale", "foot", (1, 9)), ("turn",),
    ("round", "foot"), ("forget", "turn"),
]
CART_LEAVES = [
    ("road", "cart", "a", "b", 0), ("ride", "foot", "a", "b", 0), ("ride", "cart", "a", "a", (1, 2)),
    ("cap", "cart", 1), ("scale", "cart", 2), ("round", "cart"),
]
NO_LEAVES = [
    ("road",), ("road", "foot", "a", "b"), ("road", "foot", "a", "b", 0, 0), ("road", "Foot", "a", "b", 0),
    ("road", 0, "a", "b", 0), ("road", "foot", "A", "b", 0), ("road", "foot", "a", "", 0),
    ("road", "foot", "a", "abcdef", 0), ("road", "foot", 0, 1, 0), ("road", "foot", "a", "b", -1),
    ("road", "foot", "a", "b", (-1, 2)), ("road", "foot", "a", "b", (2, 2)), ("road", "foot", "a", "b", "1"),
    ("road", "foot", "a", "b", True), ("road", "foot", "a", "b", None), ("road", "foot", "a", "b", [1, 2]),
    ["road", "foot", "a", "b", 0], ("road", ["foot"], "a", "b", 0), ("road", "foot", ["a"], "b", 0),
    ("ride", "foot", "a", "b"), ("ride", "foot", "a", "b", -1), ("place", "p", "a", 1), ("place", "p", "a", 1, -1),
    ("place", "p", "a", -1, 1), ("place", "P", "a", 1, 1), ("place", "p", "?1", 1, 1), ("place", "foot", "p", "a", 1),
    ("same", "a"), ("same", "a", "a"), ("same", "a", "b", "c"), ("same", "a", 1), ("same", None, None), ("forget",),
    ("forget", "a", "b"), ("forget", "+1"), ("forget", True), ("cap", "foot"), ("cap", "foot", -1), ("cap", 1),
    ("cap", "foot", False), ("cap", "a", 1), ("scale", "foot", 0), ("scale", "foot", (0, 1)), ("scale", "foot", -1),
    ("scale", "foot", "2"), ("scale", 2), ("turn", "foot"), ["turn"], "turn", ("turn", None), ("Turn",), (["turn"],),
    (("turn",),), ("round",), ("round", "foot", 1), ("round", "feet"), ("round", None), ("if",), ("repeat",),
    ("if", "foot", "a", "b", 1, (), ()), ("repeat", 1, ()), ("repeat", 2, (("turn",),)), ("go",), ("",), (None,),
    (1,), ({},),
]


def world_of(names="ab", cart=True):
    return World({name: at for at, name in enumerate(names)}, FOOT, cart=CART if cart else None)


def ratios(table):
    return [[value if isinstance(value, tuple) else (value, 1) for value in row] for row in table]


class Leaves(unittest.TestCase):
    def test_leaves(self):
        for step in LEAVES:
            self.assertIs(is_leaf(step), True, step)
            self.assertIs(is_leaf(value=step, layers=1), True, step)
            self.assertIs(is_leaf(step, 2), True, step)

    def test_leaves_on_two_layers(self):
        for step in CART_LEAVES:
            self.assertIs(is_leaf(step), True, step)
            self.assertIs(is_leaf(step, 1), False, step)
        self.assertIs(is_leaf(("ride", "foot", "a", "b", 0), 1), False)

    def test_no_leaves(self):
        for value in ODD_VALUES + NO_LEAVES + [0, 1, (1, 2), ["turn"]]:
            for layers in (1, 2):
                self.assertIs(is_leaf(value, layers), False, value)


class Changed(unittest.TestCase):
    def after(self, *steps, world=None):
        here = world_of() if world is None else world
        for step in steps:
            here = changed(here, step)
        return here

    def tables(self, *steps, world=None):
        here = self.after(*steps, world=world)
        return [here.table(layer) for layer in ("foot", "cart")[:here.layers]]

    def test_document(self):
        world = World({"a": 0, "b": 1}, [[0, 4], [7, 0]])
        self.assertEqual(changed(world, ("road", "foot", "b", "a", (1, 2))).table(),
                         [[(0, 1), (4, 1)], [(1, 2), (0, 1)]])
        self.assertEqual(changed(world=world, step=("place", "c", "a", 3, 5)).table(),
                         [[(0, 1), (4, 1), (3, 1)], [(7, 1), (0, 1), (10, 1)], [(5, 1), (9, 1), (0, 1)]])

    def test_road(self):
        foot, cart = self.tables(("road", "foot", "a", "b", 1))
        self.assertEqual(foot, ratios([[0, 1, 4], [7, 0, 3], [6, 2, 0]]))
        self.assertEqual(cart, ratios(CART))
        foot, cart = self.tables(("road", "cart", "a", "b", 0))
        self.assertEqual(foot, ratios(FOOT))
        self.assertEqual(cart, ratios([[0, 0, 1], [1, 0, 1], [(3, 2), (1, 2), 0]]))
        foot, _ = self.tables(("road", "foot", "b", "a", 0))
        self.assertEqual(foot, ratios([[0, 4, 5], [0, 0, 3], [2, 2, 0]]))
        self.assertEqual(self.after(("road", "foot", "a", "b", 9)), world_of())
        self.assertEqual(self.after(("road", "foot", "a", "a", 0)), world_of())

    def test_ride(self):
        foot, cart = self.tables(("ride", "foot", "a", "b", 0))
        self.assertEqual((foot, cart), (ratios([[0, 1, 4], [7, 0, 3], [6, 2, 0]]), ratios(CART)))
        foot, cart = self.tables(("ride", "foot", "a", "b", (1, 2)))
        self.assertEqual((foot, cart), (ratios([[0, (3, 2), (9, 2)], [7, 0, 3], [6, 2, 0]]), ratios(CART)))
        world = World({"a": 0, "b": 1}, [[0, 1], [9, 0]], cart=[[0, 5], [5, 0]])
        self.assertEqual(changed(world, ("ride", "cart", "a", "b", 2)).table("cart"), ratios([[0, 3], [5, 0]]))
        self.assertEqual(changed(world, ("ride", "cart", "b", "a", 2)), world)
        self.assertEqual(changed(world, ("ride", "cart", "b", "b", 2)), world)

    def test_place(self):
        world = self.after(("place", "p", "b", (1, 2), 3))
        self.assertEqual(world.table(), ratios([[0, 4, 5, (9, 2)], [7, 0, 3, (1, 2)], [6, 2, 0, (5, 2)],
                                                [10, 3, 6, 0]]))
        self.assertEqual(world.table("cart"), ratios([[0, 1, 2, (3, 2)], [1, 0, 1, (1, 2)],
                                                      [(3, 2), (1, 2), 0, 1], [4, 3, 4, 0]]))
        self.assertEqual((world.names(), world.place("p"), world.place("b")), (["a", "b", "p"], 3, 1))
        self.assertEqual(self.after(("place", "p", "a", 0, 0)).far("p", "a"), (0, 1))

    def test_same(self):
        world = self.after(("same", "a", "b"))
        self.assertEqual(world.table(), ratios([[0, 0, 3], [0, 0, 3], [2, 2, 0]]))
        self.assertEqual(world.table("cart"), ratios([[0, 0, 1], [0, 0, 1], [(1, 2), (1, 2), 0]]))
        self.assertEqual((world.names(), world.place("a"), world.size), (["a"], 0, 3))
        other = self.after(("same", "b", "a"))
        self.assertEqual((other.table(), other.names(), other.place("b")), (world.table(), ["b"], 1))

    def test_forget(self):
        world = self.after(("forget", "a"))
        self.assertEqual((world.names(), world.place("b"), world.table(), world.table("cart")),
                         (["b"], 1, ratios(FOOT), ratios(CART)))
        again = self.after(("forget", "b"), ("place", "b", "a", 1, 1))
        self.assertEqual((again.size, again.place("b")), (4, 3))

    def test_cap(self):
        foot, cart = self.tables(("cap", "foot", 4))
        self.assertEqual((foot, cart), (ratios([[0, 4, 4], [4, 0, 3], [4, 2, 0]]), ratios(CART)))
        foot, cart = self.tables(("cap", "cart", (1, 3)))
        self.assertEqual((foot, cart), (ratios(FOOT), ratios([[0, (1, 3), (1, 3)], [(1, 3), 0, (1, 3)],
                                                              [(1, 3), (1, 3), 0]])))
        self.assertEqual(self.tables(("cap", "foot", 0))[0], ratios([[0] * 3] * 3))
        self.assertEqual(self.after(("cap", "foot", 7)), world_of())

    def test_scale(self):
        foot, cart = self.tables(("scale", "foot", (1, 2)))
        self.assertEqual((foot, cart), (ratios([[0, 2, (5, 2)], [(7, 2), 0, (3, 2)], [3, 1, 0]]), ratios(CART)))
        self.assertEqual(self.tables(("scale", "cart", 2))[1], ratios([[0, 2, 4], [2, 0, 2], [3, 1, 0]]))
        self.assertEqual(self.after(("scale", "foot", 1)), world_of())

    def test_turn(self):
        foot, cart = self.tables(("turn",))
        self.assertEqual(foot, ratios([[0, 7, 6], [4, 0, 2], [5, 3, 0]]))
        self.assertEqual(cart, ratios([[0, 1, (3, 2)], [1, 0, (1, 2)], [2, 1, 0]]))
        self.assertEqual(self.after(("turn",), ("turn",)), world_of())

    def test_round(self):
        foot, cart = self.tables(("round", "foot"))
        self.assertEqual((foot, cart), (ratios([[0, 11, 11], [11, 0, 5], [11, 5, 0]]), ratios(CART)))
        foot, cart = self.tables(("round", "cart"))
        self.assertEqual((foot, cart), (ratios(FOOT), ratios([[0, 2, (7, 2)], [2, 0, (3, 2)], [(7, 2), (3, 2), 0]])))

    def test_one_layer(self):
        world = world_of(cart=False)
        for step in LEAVES:
            if step[0] in ("turn", "round", "cap", "scale") or "a" in step and "b" in step:
                behind = changed(world, step)
                self.assertEqual(behind.layers, 1)
                self.assertEqual(behind.table(), changed(world_of(), step).table())
        self.assertEqual(changed(world, ("turn",)).table(), ratios([[0, 7, 6], [4, 0, 2], [5, 3, 0]]))
        self.assertEqual(changed(world, ("same", "a", "b")).table(), ratios([[0, 0, 3], [0, 0, 3], [2, 2, 0]]))

    def test_nothing_is_changed(self):
        world = world_of()
        for step in [*LEAVES[:2], *LEAVES[5:], *CART_LEAVES]:
            if "turn" not in step[1:]:
                changed(world, step)
                self.assertEqual(world, world_of())

    def test_names_on_the_same_steps(self):
        names = {"if": 0, "road": 1, "foot": 2}
        world = changed(World(names, FOOT), ("road", "foot", "if", "road", 1))
        self.assertEqual(world.far("if", "foot"), (4, 1))
        self.assertEqual(changed(world, ("forget", "foot")).names(), ["if", "road"])


class Errors(unittest.TestCase):
    def test_invalid_step(self):
        for step in ODD_VALUES + NO_LEAVES:
            for world in (world_of(), world_of(cart=False), world_of("")):
                self.assertEqual(raised(self, InvalidStep, changed, world, step).path, ())
        for step in CART_LEAVES:
            self.assertEqual(raised(self, InvalidStep, changed, world_of(cart=False), step).path, ())
            self.assertEqual(raised(self, InvalidStep, changed, world_of("", cart=False), step).path, ())

    def test_unknown_names(self):
        for step, name in [(("road", "foot", "x", "y", 0), "x"), (("road", "foot", "a", "y", 0), "y"),
                           (("road", "foot", "x", "a", 0), "x"), (("ride", "foot", "y", "x", 0), "y"),
                           (("ride", "cart", "b", "x", 0), "x"), (("place", "a", "x", 0, 0), "x"),
                           (("place", "p", "p", 0, 0), "p"), (("same", "x", "a"), "x"), (("same", "a", "x"), "x"),
                           (("same", "y", "x"), "y"), (("forget", "x"), "x"), (("forget", "foot"), "foot")]:
            self.assertEqual(raised(self, UnknownName, changed, world_of(), step).name, name)

    def test_duplicate_name(self):
        self.assertEqual(raised(self, DuplicateName, changed, world_of(), ("place", "b", "a", 0, 0)).name, "b")
        self.assertEqual(raised(self, DuplicateName, changed, world_of(), ("place", "a", "a", 0, 0)).name, "a")

    def test_too_many(self):
        table = [[0 if x == y else 1 for y in range(9)] for x in range(9)]
        names = {letter: at for at, letter in enumerate("abcde")}
        full, step = World(names, table), ("place", "p", "a", 1, 1)
        error = raised(self, TooMany, changed, full, step)
        self.assertEqual((error.subject, error.most), ("names", 5))
        error = raised(self, TooMany, changed, changed(full, ("forget", "e")), step)
        self.assertEqual((error.subject, error.most), ("places", 9))
        error = raised(self, TooMany, changed, World(names, [row[:8] for row in table[:8]]), step)
        self.assertEqual((error.subject, error.most), ("names", 5))
        self.assertEqual(raised(self, DuplicateName, changed, full, ("place", "e", "a", 1, 1)).name, "e")
        self.assertEqual(raised(self, UnknownName, changed, full, ("place", "e", "x", 1, 1)).name, "x")
        small = World({letter: at for at, letter in enumerate("abcd")}, [row[:8] for row in table[:8]])
        self.assertEqual(changed(small, step).size, 9)
        self.assertEqual(changed(small, step).names(), list("abcdp"))


class Model:
    """A second way to do steps: distances by pairs of places, as fractions."""

    def __init__(self, world):
        self.names = {name: world.place(name) for name in world.names()}
        self.size = world.size
        self.far = {layer: {(x, y): Fraction(*world.far(x, y, layer=layer)) for x in range(world.size)
                            for y in range(world.size)} for layer in ("foot", "cart")[:world.layers]}

    def road(self, layer, a, b, length):
        old = self.far[layer]
        self.far[layer] = {(x, y): min(far, old[x, a] + length + old[b, y]) for (x, y), far in old.items()}

    def do(self, step):
        word, *items = step
        values = [self.names.get(item, item) if isinstance(item, str) else item for item in items]
        values = [Fraction(*value) if isinstance(value, tuple) else value for value in values]
        if word == "road":
            self.road(items[0], *values[1:])
        elif word == "ride":
            other = "cart" if items[0] == "foot" else "foot"
            self.road(items[0], values[1], values[2], values[3] + self.far[other][values[1], values[2]])
        elif word == "place":
            for far in self.far.values():
                for x in range(self.size):
                    far[x, self.size] = far[x, values[1]] + values[2]
                    far[self.size, x] = values[3] + far[values[1], x]
                far[self.size, self.size] = Fraction(0)
            self.names[items[0]] = self.size
            self.size += 1
        elif word == "same":
            for layer in self.far:
                self.road(layer, values[0], values[1], 0)
                self.road(layer, values[1], values[0], 0)
            del self.names[items[1]]
        elif word == "forget":
            del self.names[items[0]]
        elif word == "turn":
            self.far = {layer: {(y, x): value for (x, y), value in far.items()} for layer, far in self.far.items()}
        else:
            old = self.far[items[0]]
            sums = {"cap": lambda x, y: min(old[x, y], values[1]) if x != y else old[x, y],
                    "scale": lambda x, y: old[x, y] * values[1], "round": lambda x, y: old[x, y] + old[y, x]}
            self.far[items[0]] = {(x, y): sums[word](x, y) for x, y in old}


def random_step(random, world):
    layers = ("foot", "cart")[:world.layers]
    names = world.names()
    layer, length = random.choice(layers), ratio(random.randint(0, 9), random.randint(1, 4))
    steps = [("turn",), ("round", layer), ("cap", layer, length), ("scale", layer, ratio(random.randint(1, 5), 3))]
    if names:
        a, b = random.choice(names), random.choice(names)
        steps += [("road", layer, a, b, length)] * 3 + [("forget", a)]
        steps += [("same", a, b)] * (a != b) + [("ride", layer, a, b, length)] * 2 * (len(layers) == 2)
        if len(names) < 5 and world.size < 9:
            new = next(name for name in "pqrstu" if name not in names)
            steps += [("place", new, a, length, random.randint(0, 4))] * 3
    return random.choice(steps)


class RandomWalks(unittest.TestCase):
    def test_like_the_second_way(self):
        random = Random(21)
        for turn in range(60):
            world = world_of("abc", cart=turn % 2 == 0)
            model = Model(world)
            for _ in range(random.randint(1, 10)):
                step = random_step(random, world)
                world = changed(world, step)
                model.do(step)
                self.assertEqual({name: world.place(name) for name in world.names()}, model.names)
                self.assertEqual(world.size, model.size)
                for layer, far in model.far.items():
                    for (x, y), value in far.items():
                        self.assertEqual(Fraction(*world.far(x, y, layer=layer)), value, step)


if __name__ == "__main__":
    unittest.main()
