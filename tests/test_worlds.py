"""Promise [6], and the entry of missingmiles/worlds.py."""

import unittest

from missingmiles.errors import (InvalidLayer, InvalidName, InvalidNumber, InvalidPlace, InvalidTable, InvalidWay,
                                 TooMany, UnknownName, UnlikeWorlds)
from missingmiles.worlds import World
from tests.helpers import ODD_VALUES, raised

FOOT = [[0, 4, 5], [7, 0, 3], [6, (5, 2), 0]]
CART = [[0, 1, 1], [1, 0, 1], [1, (1, 2), 0]]
FOOT_RATIOS = [[(0, 1), (4, 1), (5, 1)], [(7, 1), (0, 1), (3, 1)], [(6, 1), (5, 2), (0, 1)]]
CART_RATIOS = [[(0, 1), (1, 1), (1, 1)], [(1, 1), (0, 1), (1, 1)], [(1, 1), (1, 2), (0, 1)]]


def flat(size, far=1):
    """A table in which all different places are equally far from each other."""
    return [[0 if x == y else far for y in range(size)] for x in range(size)]


def two_layers(names=None):
    return World({"a": 0, "b": 2} if names is None else names, FOOT, cart=CART)


class Constructor(unittest.TestCase):
    def test_document(self):
        world = World({"a": 0, "b": 1}, [[0, 4], [7, 0]])
        self.assertEqual([world.far("a", "b"), world.far(1, "a"), world.names(), len(world)],
                         [(4, 1), (7, 1), ["a", "b"], 2])

    def test_plain(self):
        self.assertEqual(World.MOST, 9)
        world = two_layers()
        self.assertEqual((world.size, world.layers, len(world)), (3, 2, 3))
        self.assertEqual(world.names(), ["a", "b"])
        self.assertEqual(world.table(), FOOT_RATIOS)
        self.assertEqual(world.table("cart"), CART_RATIOS)
        world = World(names={}, foot=((0,),))
        self.assertEqual((world.size, world.layers, world.names(), world.table()), (1, 1, [], [[(0, 1)]]))
        self.assertEqual(World({}, FOOT, cart=None).layers, 1)
        self.assertEqual(World({}, tuple(tuple(row) for row in FOOT)).table(), FOOT_RATIOS)
        self.assertEqual(World({}, [(0, 1), (1, 0)]).table(), [[(0, 1), (1, 1)], [(1, 1), (0, 1)]])
        self.assertEqual(World({}, [[(0, 1)]]).far(0, 0), (0, 1))

    def test_sizes(self):
        for size in range(1, 10):
            self.assertEqual(World({}, flat(size), cart=flat(size, (1, 2))).size, size)

    def test_invalid_foot(self):
        wrong = [value for value in ODD_VALUES if value != [[[[["x"]]]]]]
        wrong += [0, 1, {}, "ab", flat(10), [[0, 1], [1]], [[0, 1]], [[0], [0]], [[0, 1, 1], [1, 0, 1]], [0, 1],
                  [[0, 1], "ab"], [[0, 1], None], ["0"], [None], [[]], [[0, 1, 2], [1, 0, 1], [1, 1]]]
        for value in wrong:
            self.assertEqual(raised(self, InvalidTable, World, {}, value).layer, "foot")
            self.assertEqual(raised(self, InvalidTable, World, {"A": None}, value, cart=value).layer, "foot")

    def test_invalid_cart(self):
        wrong = [value for value in ODD_VALUES if value is not None]
        wrong += [0, 1, "ab", [[0]], flat(2), flat(4), flat(10), [[0, 1, 1], [1, 0, 1], [1, 1]], [0, 1, 2], "abc",
                  [[0, 1, 1], [1, 0, 1], "abc"]]
        for value in wrong:
            self.assertEqual(raised(self, InvalidTable, World, {}, FOOT, cart=value).layer, "cart")
        self.assertEqual(raised(self, InvalidTable, World, {"A": 0}, FOOT, cart=[]).layer, "cart")

    def test_a_table_of_one_place(self):
        for value in ([[1]], [[[[["x"]]]]], [[None]], [[(1, 1)]], ((True,),), [[""]]):
            self.assertEqual(self.way(raised(self, InvalidWay, World, {}, value)), ("foot", 0, 0))

    def way(self, error):
        return (error.layer, error.start, error.goal)

    def test_distances_that_are_none(self):
        wrong = [value for value in ODD_VALUES] + [-1, (-1, 2), (2, 2), [1, 2], "1", [1]]
        for value in wrong:
            for start, goal in [(0, 1), (1, 0), (2, 2), (0, 0), (2, 1)]:
                table = flat(3)
                table[start][goal] = value
                self.assertEqual(self.way(raised(self, InvalidWay, World, {}, table)), ("foot", start, goal))
                error = raised(self, InvalidWay, World, {"A": 9}, FOOT, cart=table)
                self.assertEqual(self.way(error), ("cart", start, goal))

    def test_distance_to_itself(self):
        for value in (1, (1, 2), 10 ** 29):
            table = flat(3)
            table[1][1] = value
            self.assertEqual(self.way(raised(self, InvalidWay, World, {}, table)), ("foot", 1, 1))

    def test_first_way_counts(self):
        table = [[0, 1, 1], [1, 0, None], [-1, 1, 5]]
        self.assertEqual(self.way(raised(self, InvalidWay, World, {}, table)), ("foot", 1, 2))
        table[1][2] = 1
        self.assertEqual(self.way(raised(self, InvalidWay, World, {}, table)), ("foot", 2, 0))
        table[2][0] = 1
        self.assertEqual(self.way(raised(self, InvalidWay, World, {}, table)), ("foot", 2, 2))
        # A distance that is none comes ahead of one that is too long, wherever they are.
        table = [[0, 9, 1], [1, 0, 1], [1, 1, None]]
        self.assertEqual(self.way(raised(self, InvalidWay, World, {}, table)), ("foot", 2, 2))
        table[2][2] = 0
        self.assertEqual(self.way(raised(self, InvalidWay, World, {}, table)), ("foot", 0, 1))

    def test_ways_by_a_third_place(self):
        table = [[0, 2, 5], [9, 0, 2], [9, 9, 0]]
        self.assertEqual(self.way(raised(self, InvalidWay, World, {}, table)), ("foot", 0, 2))
        table[0][2] = 4
        self.assertEqual(World({}, table).far(0, 2), (4, 1))
        table[0][2] = (4000000001, 1000000000)
        self.assertEqual(self.way(raised(self, InvalidWay, World, {}, table)), ("foot", 0, 2))
        table = [[0, 2, 4], [9, 0, 2], [1, 9, 0]]
        self.assertEqual(self.way(raised(self, InvalidWay, World, {}, table)), ("foot", 1, 0))
        table[1][0] = 3
        self.assertEqual(self.way(raised(self, InvalidWay, World, {}, table)), ("foot", 2, 1))
        table[2][1] = 3
        self.assertEqual(World({}, table).layers, 1)
        self.assertEqual(self.way(raised(self, InvalidWay, World, {"A": 0}, flat(3), cart=[[0, 1, 3], [1, 0, 1],
                                                                                        [1, 1, 0]])), ("cart", 0, 2))

    def test_order_of_layers(self):
        bad = flat(3)
        bad[2][1] = None
        self.assertEqual(self.way(raised(self, InvalidWay, World, {}, bad, cart=None)), ("foot", 2, 1))
        self.assertEqual(self.way(raised(self, InvalidWay, World, {}, bad, cart=[])), ("foot", 2, 1))
        self.assertEqual(self.way(raised(self, InvalidWay, World, {}, bad, cart=bad)), ("foot", 2, 1))
        long = flat(3)
        long[0][1] = 3
        self.assertEqual(self.way(raised(self, InvalidWay, World, {}, long, cart=bad)), ("foot", 0, 1))

    def test_invalid_names(self):
        for name in ["", "A", "abcdef", "a b", "a1", "?1", "aB", "a\n"]:
            self.assertEqual(raised(self, InvalidName, World, {"z": None, name: None, "~": 0}, FOOT).given, name)
        self.assertEqual(raised(self, InvalidName, World, {"zz": 0, "Zz": 1, "Za": 2}, FOOT).given, "Za")
        many = {letter: 0 for letter in "abcdefg"}
        self.assertEqual(raised(self, InvalidName, World, {**many, "h1": 0}, FOOT).given, "h1")

    def test_too_many_names(self):
        names = {letter: at for at, letter in enumerate("abcde")}
        self.assertEqual(World(names, flat(9)).names(), list("abcde"))
        error = raised(self, TooMany, World, {**names, "f": 5}, flat(9))
        self.assertEqual((error.subject, error.most), ("names", 5))
        error = raised(self, TooMany, World, {letter: None for letter in "abcdef"}, flat(9))
        self.assertEqual((error.subject, error.most), ("names", 5))

    def test_invalid_places(self):
        for value in ODD_VALUES + [-1, 3, 10 ** 29, (0, 1), [0], "a", "0"]:
            self.assertEqual(raised(self, InvalidPlace, World, {"a": 0, "b": value}, FOOT).given, value)
            self.assertEqual(raised(self, InvalidPlace, World, {"c": None, "b": value, "a": 0}, FOOT).given, value)
        self.assertIs(raised(self, InvalidPlace, World, {"a": True}, FOOT).given, True)
        self.assertIs(raised(self, InvalidPlace, World, {"a": False}, FOOT).given, False)
        self.assertEqual(raised(self, InvalidPlace, World, {"b": 2, "a": 2, "c": 9}, FOOT).given, 2)
        self.assertEqual(raised(self, InvalidPlace, World, {"c": 1, "b": 1, "a": 9}, FOOT).given, 9)

    def test_arguments_are_copied(self):
        names, foot, cart = {"a": 0}, [list(row) for row in FOOT], [list(row) for row in CART]
        world = World(names, foot, cart=cart)
        names["b"] = 1
        foot[0][1] = 1
        cart[0][1] = 9
        foot.append(None)
        self.assertEqual(world, World({"a": 0}, FOOT, cart=CART))
        world.names().append("b")
        world.table()[0][1] = None
        world.table("cart").clear()
        self.assertEqual(world, World({"a": 0}, FOOT, cart=CART))
        table = world.table()
        table[0][1] = (9, 1)
        self.assertEqual([row[1] for row in table], [(9, 1), (0, 1), (5, 2)])

    def test_an_argument_that_is_used_twice(self):
        table = flat(2)
        world = World({}, table, cart=table)
        self.assertEqual(world.table("foot"), world.table("cart"))
        self.assertIsNot(world.table()[0], world.table()[1])

    def test_properties_cannot_be_assigned(self):
        for name in ("size", "layers"):
            with self.assertRaises(AttributeError):
                setattr(two_layers(), name, 1)


class Asked(unittest.TestCase):
    world = two_layers()

    def test_place(self):
        self.assertEqual([self.world.place("a"), self.world.place(name="b")], [0, 2])
        for value in ODD_VALUES + ["c", "ab", 0, 2, "A"]:
            self.assertEqual(raised(self, UnknownName, self.world.place, value).name, value)

    def test_table(self):
        self.assertEqual(self.world.table("foot"), FOOT_RATIOS)
        self.assertEqual(self.world.table(layer="cart"), CART_RATIOS)
        for value in ODD_VALUES + ["road", 0, 1, ["foot"]]:
            self.assertEqual(raised(self, InvalidLayer, self.world.table, value).given, value)
        self.assertEqual(raised(self, InvalidLayer, World({}, FOOT).table, "cart").given, "cart")

    def test_far(self):
        far = self.world.far
        self.assertEqual(far(0, 1), (4, 1))
        self.assertEqual(far("b", 1), (5, 2))
        self.assertEqual(far(start=1, goal="b"), (3, 1))
        self.assertEqual(far("a", "a"), (0, 1))
        self.assertEqual(far("b", 1, layer="cart"), (1, 2))
        self.assertEqual(far(0, "b", layer="foot"), (5, 1))
        with self.assertRaises(TypeError):
            far(0, 1, "cart")

    def test_far_raises(self):
        for value in ODD_VALUES + [-1, 3, "c", (0, 1), [0], "0"]:
            self.assertEqual(raised(self, InvalidPlace, self.world.far, value, None).given, value)
            self.assertEqual(raised(self, InvalidPlace, self.world.far, "a", value).given, value)
            if value not in ("foot", "cart"):
                self.assertEqual(raised(self, InvalidLayer, self.world.far, None, None, layer=value).given, value)
        self.assertIs(raised(self, InvalidPlace, self.world.far, 0, True).given, True)
        self.assertEqual(raised(self, InvalidLayer, World({}, FOOT).far, 0, 1, layer="cart").given, "cart")

    def test_contains(self):
        self.assertTrue("a" in self.world)
        self.assertFalse("c" in self.world)
        for value in ODD_VALUES + [0, 1, 2, ["a"], ("a",), "ab"]:
            self.assertFalse(value in self.world)

    def test_truth_and_repr(self):
        self.assertIs(bool(World({}, [[0]])), True)
        self.assertEqual(repr(World({"b": 0, "a": 1}, flat(3), cart=flat(3))), "World(a b, 3 places, 2 layers)")
        self.assertEqual(repr(World({}, [[0]])), "World(-, 1 places, 1 layers)")
        self.assertEqual(repr(World({"inn": 0}, flat(2))), "World(inn, 2 places, 1 layers)")

    def test_equality(self):
        self.assertTrue(two_layers() == World({"b": 2, "a": 0}, FOOT_RATIOS, cart=CART_RATIOS))
        self.assertFalse(two_layers() != two_layers())
        for other in [World({"a": 0, "b": 2}, FOOT), World({"a": 2, "b": 0}, FOOT, cart=CART), two_layers({}),
                      World({"a": 0, "b": 2}, CART, cart=FOOT), World({"a": 0, "c": 2}, FOOT, cart=CART), None, 3,
                      "a", FOOT, World({"a": 0}, flat(1), cart=flat(1))]:
            self.assertFalse(two_layers() == other)
            self.assertTrue(two_layers() != other)


class Part(unittest.TestCase):
    world = two_layers({"a": 0, "b": 2, "c": 1})

    def test_some_places(self):
        part = self.world.part(2, 0)
        self.assertEqual(part, World({"b": 0, "a": 1}, [[0, 6], [5, 0]], cart=[[0, 1], [1, 0]]))
        self.assertEqual(self.world.part(1), World({"c": 0}, [[0]], cart=[[0]]))
        self.assertEqual(self.world.part(0, 1, 2), self.world)
        self.assertEqual(self.world.part(2, 1, 0).far("b", "c"), (5, 2))
        self.assertEqual(two_layers({}).part(1).names(), [])
        self.assertEqual(World({}, FOOT).part(2, 1).layers, 1)

    def test_raises(self):
        self.assertEqual(raised(self, InvalidNumber, self.world.part).given, 0)
        for value in ODD_VALUES + [-1, 3, "a", "b", (0, 1), [0]]:
            self.assertEqual(raised(self, InvalidPlace, self.world.part, value).given, value)
            self.assertEqual(raised(self, InvalidPlace, self.world.part, 0, 2, value, None, 0).given, value)
        self.assertEqual(raised(self, InvalidPlace, self.world.part, 0, 1, 0, "x").given, 0)
        self.assertEqual(raised(self, InvalidPlace, self.world.part, 0, 2, 2, 0).given, 2)
        self.assertIs(raised(self, InvalidPlace, self.world.part, 1, True).given, True)


class Grown(unittest.TestCase):
    def test_sums(self):
        world = two_layers()
        grown = world.grown(world)
        self.assertEqual(grown.far(2, 1), (5, 1))
        self.assertEqual(grown.far(2, 1, layer="cart"), (1, 1))
        self.assertEqual(grown.names(), ["a", "b"])
        other = World({"b": 2, "a": 0}, flat(3), cart=flat(3, 6))
        self.assertEqual(world.grown(other, by=(1, 2)).table(),
                         [[(0, 1), (9, 2), (11, 2)], [(15, 2), (0, 1), (7, 2)], [(13, 2), (3, 1), (0, 1)]])
        self.assertEqual(world.grown(other=other, by=2).far("a", "b", layer="cart"), (13, 1))
        self.assertEqual(world.grown(other, by=0), world)
        self.assertEqual(world.grown(other, by=(0, 1)), world)
        self.assertEqual(world, two_layers())
        self.assertEqual(World({}, [[0]]).grown(World({}, [[0]])), World({}, [[0]]))

    def test_unlike_worlds(self):
        world = two_layers()
        for other in ODD_VALUES + [1, FOOT, two_layers({}), two_layers({"a": 2, "b": 0}), two_layers({"a": 0}),
                                   two_layers({"a": 0, "b": 2, "c": 1}), World({"a": 0, "b": 2}, FOOT),
                                   World({"a": 0, "b": 2}, flat(4), cart=flat(4))]:
            raised(self, UnlikeWorlds, world.grown, other)
            raised(self, UnlikeWorlds, world.grown, other, by=None)
        raised(self, UnlikeWorlds, World({}, flat(2)).grown, World({}, flat(2), cart=flat(2)))

    def test_invalid_number(self):
        world = two_layers()
        for value in ODD_VALUES + [-1, (-1, 2), (2, 2), "1", [1, 2]]:
            self.assertEqual(raised(self, InvalidNumber, world.grown, world, by=value).given, value)
        with self.assertRaises(TypeError):
            world.grown(world, 1)


if __name__ == "__main__":
    unittest.main()
