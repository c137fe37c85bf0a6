"""The entry of missingmiles/lists.py, and what it rests on of promises [10], [12] and [13]."""

import random
import unittest

from missingmiles.asking import Ground
from missingmiles.cases import cases, triangles
from missingmiles.errors import HasTests, InvalidLayer, InvalidPoint, TooMany
from missingmiles.forms import Form
from missingmiles.lists import ShortList, shortest
from missingmiles.means import Mean
from missingmiles.pairings import looked_at
from missingmiles.ratios import is_less
from missingmiles.scripts import Script, run
from missingmiles.worlds import World
from tests.drawing import draw_ratio, draw_script, draw_world
from tests.helpers import ODD_VALUES, raised

AB = ["a", "b"]
ABC = ["a", "b", "c"]

# Scripts without tests whose distances have too many forms.
SWOLLEN = "road foot a b 1 ; round foot ; road foot b a 1 ; round foot ; road foot a b 1 ; round foot"


def read(text, names=("a", "b"), layers=1):
    return Script.read(names, text, layers=layers)


def texts(forms):
    return [form.text() for form in forms]


def flat(names, size, far=1, cart=None):
    """A world with some names for its first places, in which all places are equally far from one another."""
    table = [[0 if x == y else far for y in range(size)] for x in range(size)]
    return World({name: at for at, name in enumerate(names)}, table, cart=table if cart else None)


def halves(one, other):
    """A world of a, b and both strangers in which only one place of a pair and one of another are near each other."""
    near = [{AB.index(one), 2}, {AB.index(other), 3}]
    return World({"a": 0, "b": 1}, [[0 if x == y else 1 if {x, y} in near else 10 for y in range(4)] for x in range(4)])


class Found(unittest.TestCase):
    """What shortest finds, worked out by hand."""

    def check(self, text, start, goal, expected, names=AB, layers=1, layer="foot"):
        script = read(text, names, layers)
        found = shortest(script, start, goal, layer=layer)
        self.assertEqual(texts(found.forms()), expected, text)
        self.assertIsInstance(found, ShortList)
        self.assertEqual((found.source, found.start, found.goal, found.layer), (script, start, goal, layer))
        self.assertEqual(len(found), len(expected))
        self.assertEqual(repr(found), f"ShortList({len(expected)} forms)")
        self.assertIs(found.holds(), True)
        self.check_worlds(found)
        return found

    def check_worlds(self, found):
        """Holds each world beside run, by places counted here once more."""
        script, names = found.source, found.source.names()
        strangers = [point for point in ("?1", "?2") if point in (found.start, found.goal)]
        points = [*names, *strangers, *[f"+{k + 1}" for k in range(script.puts)]]
        self.assertEqual(len(found.worlds()), len(found.forms()))
        for at, world in enumerate(found.worlds()):
            self.assertEqual((world.names(), world.layers), (names, script.layers))
            self.assertEqual([world.place(name) for name in names], list(range(len(names))))
            self.assertEqual(world.size, len(names) + len(strangers))
            places = list(range(len(names), world.size))
            values = [form.value(world, *places) for form in found.forms()]
            behind = run(script, world)
            distance = behind.far(points.index(found.start), points.index(found.goal), layer=found.layer)
            self.assertEqual(values[at], distance)
            self.assertTrue(all(is_less(distance, value) for k, value in enumerate(values) if k != at))

    def test_document(self):
        self.check("road foot a b 2", "?1", "?2", ["foot ?1 ?2", "foot b ?2 + foot ?1 a + 2"])

    def test_two_names(self):
        self.check("", "a", "b", ["foot a b"])
        self.check("road foot a b 2", "a", "b", ["2", "foot a b"])
        self.check("road foot a b 2", "b", "a", ["foot b a"])
        self.check("cap foot 0", "a", "b", ["0"])
        self.check("road foot a c 4 ; road foot c b 1", "a", "b",
                   ["5", "foot a b", "foot a c + 1", "foot c b + 4"], ABC)
        self.check("forget a", "a", "b", ["foot a b"])
        self.check("same a b", "a", "b", ["0"])
        self.check("round foot", "a", "b", ["foot a b + foot b a"])

    def test_a_name_and_a_stranger(self):
        self.check("road foot a b 2", "a", "?1", ["foot a ?1", "foot b ?1 + 2"])
        self.check("road foot a b 2", "?1", "a", ["foot ?1 a"])
        self.check("road foot a b 2", "?1", "b", ["foot ?1 a + 2", "foot ?1 b"])
        self.check("scale foot 1/2 ; cap foot 3 ; turn", "?1", "a", ["1/2 foot a ?1", "3"], ["a"])

    def test_two_strangers(self):
        self.check("", "?1", "?2", ["foot ?1 ?2"], [])
        self.check("cap foot 3 ; round foot", "?1", "?2",
                   ["6", "foot ?1 ?2 + 3", "foot ?1 ?2 + foot ?2 ?1", "foot ?2 ?1 + 3"], [])
        self.check("road foot a b 2 ; turn", "?1", "?2", ["foot ?2 ?1", "foot b ?1 + foot ?2 a + 2"])

    def test_places_that_are_put_in(self):
        text = "place c a 1 2 ; road foot c b 3"
        self.check(text, "+1", "b", ["3", "foot a b + 2"])
        self.check(text, "a", "b", ["4", "foot a b"])
        self.check(text, "+1", "?1", ["foot a ?1 + 2", "foot b ?1 + 3"])
        self.check(text, "?1", "+1", ["foot ?1 a + 1"])
        self.check("place c a 1 2 ; place d b 1/2 0", "+1", "+2", ["foot a b + 5/2"])
        self.check("place c a 1 2 ; place d b 1/2 0", "+2", "+1", ["foot b a + 1"])
        self.check("place b a 1 2 ; place c a 3 4 ; forget b", "+2", "+1", ["5"], ["a"])

    def test_two_layers(self):
        self.check("ride cart a b 1", "?1", "?2", ["cart ?1 ?2", "foot a b + cart b ?2 + cart ?1 a + 1"], AB, 2, "cart")
        self.check("ride cart a b 1", "?1", "?2", ["foot ?1 ?2"], AB, 2)
        self.check("ride cart a b 1", "a", "b", ["cart a b", "foot a b + 1"], AB, 2, "cart")
        self.check("road cart a b 1 ; ride foot a b 2", "a", "?1", ["foot a ?1", "foot b ?1 + 3",
                                                                    "foot b ?1 + cart a b + 2"], AB, 2)

    def test_forms_that_a_triangle_makes_needless(self):
        for text, start, goal, left in [("road foot a a 1", "?1", "?2", ["foot ?1 ?2"]),
                                        ("road foot a a 0", "b", "?1", ["foot b ?1"]),
                                        ("road foot a b 0 ; road foot b a 0 ; road foot a a 5", "?1", "?2",
                                         ["foot ?1 ?2", "foot a ?2 + foot ?1 b", "foot b ?2 + foot ?1 a"])]:
            script = read(text)
            forms = cases(script)[0].forms(start, goal)
            self.assertGreater(len(forms), len(left), text)
            self.check(text, start, goal, left)

    def test_a_form_that_only_two_others_together_make_needless(self):
        # 1/2 foot a b + 2 lies half way between foot a b and 4, so it is never less than both.
        text = "ride cart a b 0 ; scale cart 1/2 ; ride foot a b 2 ; cap foot 4"
        forms = cases(read(text, layers=2))[0].forms("a", "b")
        self.assertEqual(texts(forms), ["1/2 cart a b + 2", "1/2 foot a b + 2", "4", "foot a b"])
        self.check(text, "a", "b", ["1/2 cart a b + 2", "4", "foot a b"], AB, 2)

    def test_by_position_and_by_name(self):
        script = read("road foot a b 2")
        found = shortest(script=script, start="a", goal="b", layer="foot")
        same = ShortList(script=script, start="a", goal="b", forms=found.forms(), worlds=found.worlds(), layer="foot")
        self.assertEqual((same.forms(), same.worlds(), same.holds()), (found.forms(), found.worlds(), True))
        again = shortest(script, "a", "b")
        self.assertEqual((again.forms(), again.worlds()), (found.forms(), found.worlds()))


class Changed(unittest.TestCase):
    """The forms of a ShortList of shortest, and what becomes of them and of their worlds when something is changed."""

    def setUp(self):
        self.script = read("road foot a b 2 ; road foot b a 1")
        self.found = shortest(self.script, "?1", "?2")
        self.forms = self.found.forms()
        self.assertEqual(texts(self.forms), ["foot ?1 ?2", "foot a ?2 + foot ?1 b + 1", "foot b ?2 + foot ?1 a + 2"])
        self.worlds = [flat(AB, 4, 1), halves("b", "a"), halves("a", "b")]

    def holds(self, forms, worlds, start="?1", goal="?2", layer="foot", script=None):
        return ShortList(script or self.script, start, goal, forms, worlds, layer=layer).holds()

    def test_plain(self):
        self.assertIs(self.holds(self.forms, self.found.worlds()), True)
        self.assertIs(self.holds(self.forms, self.worlds), True)
        self.assertIs(self.holds(tuple(self.forms), tuple(self.worlds)), True)
        self.assertIs(self.holds(self.forms[::-1], self.worlds[::-1]), True)

    def test_left_out(self):
        for at in range(3):
            forms = self.forms[:at] + self.forms[at + 1:]
            worlds = self.worlds[:at] + self.worlds[at + 1:]
            self.assertFalse(self.holds(forms, self.worlds))
            self.assertFalse(self.holds(self.forms, worlds))
            # Only the document's fact, not holds, says that no form is missing.
            self.assertIs(self.holds(forms, worlds), True)
        self.assertFalse(self.holds([], []))
        self.assertFalse(self.holds([], self.worlds))
        self.assertFalse(self.holds(self.forms, []))

    def test_doubled(self):
        for at in range(3):
            self.assertFalse(self.holds([*self.forms, self.forms[at]], self.worlds))
            self.assertFalse(self.holds([*self.forms, self.forms[at]], [*self.worlds, self.worlds[at]]))
            self.assertFalse(self.holds(self.forms, [*self.worlds, self.worlds[at]]))

    def test_exchanged(self):
        for order in [(1, 0, 2), (2, 1, 0), (0, 2, 1)]:
            self.assertFalse(self.holds([self.forms[k] for k in order], self.worlds))
            self.assertFalse(self.holds(self.forms, [self.worlds[k] for k in order]))
            self.assertTrue(self.holds([self.forms[k] for k in order], [self.worlds[k] for k in order]))

    def test_changed_forms(self):
        for at, form in enumerate(self.forms):
            for other in [form + Form(1), form * 2, form * (1, 2), Form(), Form(0, form.parts()[1:]), Form(99)]:
                forms = [*self.forms[:at], other, *self.forms[at + 1:]]
                self.assertFalse(self.holds(forms, self.worlds), other)

    def test_changed_worlds(self):
        for at, world in enumerate(self.worlds):
            for other in [flat(AB, 4, 0), flat(AB, 4, 1000), world.grown(flat(AB, 4, 100))]:
                worlds = [*self.worlds[:at], other, *self.worlds[at + 1:]]
                self.assertEqual(self.holds(self.forms, worlds), at == 0)
            self.assertTrue(self.holds(self.forms, [*self.worlds[:at], world.grown(world), *self.worlds[at + 1:]]))

    def test_forms_without_a_value(self):
        script, world = read("road foot a b 2"), flat(AB, 3, 1)
        found = shortest(script, "a", "?1")
        self.assertTrue(found.holds())
        for key in [("foot", "a", "?2"), ("foot", "c", "a"), ("cart", "a", "b"), ("foot", "?2", "?1")]:
            forms, worlds = [*found.forms(), Form(1000, [(key, 1)])], [*found.worlds(), world]
            self.assertFalse(self.holds(forms, worlds, "a", "?1", script=script))
            self.assertFalse(self.holds([found.forms()[0], Form(1000, [(key, 1)])], found.worlds(), "a", "?1",
                                        script=script))

    def test_values_that_are_equal(self):
        # All distances are 1: the value of the form is the distance, but that of another one is equal.
        forms, world = [Form(0, [(("foot", "?1", "?2"), 1)]), Form(1)], flat(AB, 4, 1)
        self.assertTrue(self.holds(forms[:1], [world]))
        self.assertFalse(self.holds(forms, [world, world]))
        self.assertFalse(self.holds([forms[0], Form(2)], [world, flat(AB, 4, 3)]))

    def test_value_that_is_not_the_distance(self):
        world = flat(AB, 4, 9)
        self.assertFalse(self.holds([Form(8)], [world]))
        self.assertFalse(self.holds([Form(10)], [world]))
        self.assertTrue(self.holds([Form(9)], [world]))

    def test_other_kinds(self):
        wrong = [*ODD_VALUES, 0, 3, "foot ?1 ?2", self.worlds[0], self.forms[0], self.script]
        for value in wrong:
            self.assertFalse(self.holds(value, self.worlds))
            self.assertFalse(self.holds(self.forms, value))
            self.assertFalse(self.holds(value, value))
            for at in range(3):
                self.assertEqual(self.holds([*self.forms[:at], value, *self.forms[at + 1:]], self.worlds),
                                 value is self.forms[0] and at == 0)
                self.assertEqual(self.holds(self.forms, [*self.worlds[:at], value, *self.worlds[at + 1:]]),
                                 value is self.worlds[0] and at == 0)

    def test_worlds_of_another_kind(self):
        form = [Form(0, [(("foot", "?1", "?2"), 1)])]
        self.assertTrue(self.holds(form, [flat(AB, 4)]))
        table = flat(AB, 4).table()
        for world in [flat(["a"], 4), flat(ABC, 4), flat(["a", "c"], 4), flat([], 4), flat(AB, 3), flat(AB, 5),
                      flat(AB, 2), flat(AB, 4, cart=True), World({"a": 1, "b": 0}, table),
                      World({"a": 0, "b": 2}, table), World({"a": 2, "b": 3}, table)]:
            self.assertFalse(self.holds(form, [world]))

    def test_number_of_strangers(self):
        for start, goal, size in [("a", "b", 2), ("a", "?1", 3), ("?1", "b", 3), ("?1", "?2", 4)]:
            form = [Form(0, [(("foot", start, goal), 1)])]
            for other in (1, 2, 3, 4, 5):
                world = flat(AB[:other], other, 1)
                self.assertEqual(self.holds(form, [world], start, goal, script=read("")), other == size)

    def test_layers(self):
        script = read("ride cart a b 1", layers=2)
        found = shortest(script, "a", "b", layer="cart")
        self.assertTrue(found.holds())
        self.assertFalse(self.holds(found.forms(), found.worlds(), "a", "b", "foot", script))
        one_layer = [World({"a": 0, "b": 1}, world.table()) for world in found.worlds()]
        self.assertFalse(self.holds(found.forms(), one_layer, "a", "b", "cart", script))

    def test_lists(self):
        for value, length in [([], 0), ((), 0), (None, 0), (7, 0), ("ab", 0), (True, 0), ([1, 2], 2), ((1, 2, 3), 3)]:
            found = ShortList(self.script, "a", "b", value, value)
            expected = list(value) if isinstance(value, tuple) else value
            self.assertEqual((found.forms(), found.worlds(), len(found)), (expected, expected, length))
            self.assertEqual((repr(found), bool(found), found.layer), (f"ShortList({length} forms)", True, "foot"))
            self.assertFalse(found.holds())

    def test_lists_are_copied(self):
        forms, worlds = [*self.forms, [1]], list(self.worlds)
        found = ShortList(self.script, "?1", "?2", forms, worlds)
        forms[-1].append(2)
        forms.clear()
        worlds.clear()
        found.forms()[-1].append(3)
        found.forms().clear()
        found.worlds().clear()
        self.assertEqual((found.forms(), found.worlds()), ([*self.forms, [1]], self.worlds))
        self.found.forms().clear()
        self.found.worlds().clear()
        self.assertEqual((len(self.found), self.found.holds()), (3, True))


class Errors(unittest.TestCase):
    def test_tests_come_first(self):
        text = "if foot a b 1 ( ) else ( )"
        wide = "road foot a c 1 ; road foot c b 1 ; repeat 3 ( if foot a b 9 ( ) else ( ) )"
        for script in [read(text), read(wide, ABC), read(SWOLLEN + " ; " + text)]:
            for start, goal, layer in [("a", "b", "foot"), (None, [], 7), ("a", "a", "cart"), ("?2", "?1", "rail")]:
                raised(self, HasTests, shortest, script, start, goal, layer=layer)

    def test_too_many(self):
        for start, goal, layer in [("a", "b", "foot"), (None, [], 7), ("a", "a", "cart"), ("?2", "?1", "rail")]:
            error = raised(self, TooMany, shortest, read(SWOLLEN), start, goal, layer=layer)
            self.assertEqual((error.subject, error.most), ("forms", 200))

    def test_layers(self):
        for layer in [*ODD_VALUES, 0, "cart", "rail", "foot "]:
            for start, goal in [("a", "b"), (None, None), ("a", "a"), ("?2", "?1")]:
                error = raised(self, InvalidLayer, shortest, read(""), start, goal, layer=layer)
                self.assertEqual(error.given, layer)
        self.assertEqual(len(shortest(read("", layers=2), "a", "b", layer="cart")), 1)
        raised(self, InvalidLayer, shortest, read("", layers=2), "a", "b", layer="carts")

    def test_points(self):
        script = read("place d a 1 1")
        for value in [*ODD_VALUES, 0, "c", "d", "+2", "+0", "?3", "A", "?1 "]:
            for goal in ("b", "?2", None, "a"):
                error = raised(self, InvalidPoint, shortest, script, value, goal)
                self.assertEqual(error.given, value)
            for start in ("a", "?1", "?2", "+1"):
                error = raised(self, InvalidPoint, shortest, script, start, value)
                self.assertEqual(error.given, value)

    def test_goal_that_is_the_start(self):
        script = read("place d a 1 1")
        for point in ("a", "b", "+1", "?1", "?2"):
            self.assertEqual(raised(self, InvalidPoint, shortest, script, point, point).given, point)

    def test_second_stranger_in_the_wrong_place(self):
        script = read("place d a 1 1")
        for other in ("a", "b", "+1"):
            self.assertEqual(raised(self, InvalidPoint, shortest, script, other, "?2").given, "?2")
            self.assertEqual(raised(self, InvalidPoint, shortest, script, "?2", other).given, "?2")
        self.assertEqual(raised(self, InvalidPoint, shortest, script, "?2", "?1").given, "?2")
        self.assertTrue(shortest(script, "?1", "?2").holds())


class Drawn(unittest.TestCase):
    """Scripts that are drawn: the list is enough in worlds that are drawn, and for all worlds by means."""

    def test_drawn(self):
        source = random.Random(11)
        dropped = long = 0
        for _ in range(220):
            names, layers = ABC[:source.randint(0, 3)], source.choice([1, 1, 2])
            script = draw_script(source, names, layers, 6)
            try:
                case = None if script.tests else cases(script)[0]
            except TooMany:
                continue
            if case is None:
                continue
            start, goal = source.choice(looked_at(case.points()))
            layer = source.choice(["foot", "cart"][:layers])
            found = shortest(script, start, goal, layer=layer)
            forms = case.forms(start, goal, layer=layer)
            self.assertTrue(found.holds())
            Found.check_worlds(self, found)
            self.assertEqual(texts(found.forms()), sorted(set(texts(found.forms()))))
            self.check_dropped(found, [form for form in forms if form not in found.forms()])
            self.check_enough(source, found)
            dropped += len(forms) > len(found)
            long += len(found) > 2
        self.assertTrue(dropped > 8 and long > 8, (dropped, long))

    def check_dropped(self, found, dropped):
        """No form that was dropped is less than all of the list in any world."""
        names = found.source.names()
        strangers = [point for point in ("?1", "?2") if point in (found.start, found.goal)]
        ground = Ground(names, strangers, found.source.layers)
        rows = triangles([*names, *strangers], found.source.layers)
        for form in dropped:
            mean = ground.mean_or_world(form, found.forms(), rows)
            self.assertIsInstance(mean, Mean)
            self.assertTrue(mean.shows(form, found.forms(), rows))

    def check_enough(self, source, found):
        """In each world that is drawn the distance is the least value of the list."""
        script, names = found.source, found.source.names()
        for _ in range(4):
            size = len(names) + ("?1" in (found.start, found.goal)) + ("?2" in (found.start, found.goal))
            world = draw_world(source, names, script.layers, size)
            world = world.grown(world, by=draw_ratio(source))
            order = [world.place(name) for name in names]
            world = world.part(*order, *[place for place in range(size) if place not in order])
            points = [*names, *["?1", "?2"][:size - len(names)], *[f"+{k + 1}" for k in range(script.puts)]]
            distance = run(script, world).far(points.index(found.start), points.index(found.goal), layer=found.layer)
            values = [form.value(world, *range(len(names), size)) for form in found.forms()]
            self.assertIn(distance, values)
            self.assertFalse(any(is_less(value, distance) for value in values))


if __name__ == "__main__":
    unittest.main()
