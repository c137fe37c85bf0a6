"""Promises [12] and, of [13], the triangles, and the entry of missingmiles/cases.py."""

import random
import unittest
from fractions import Fraction

from missingmiles.cases import Case, cases, triangles
from missingmiles.errors import InvalidLayer, InvalidPoint, TooMany
from missingmiles.forms import Form
from missingmiles.ratios import is_less
from missingmiles.scripts import Script, run
from tests.drawing import draw_script, draw_world
from tests.helpers import ODD_VALUES, raised
from tests.naive import naive_cases

AB = ["a", "b"]
ABC = ["a", "b", "c"]


def texts(forms):
    return [form.text() for form in forms]


def told(rows):
    """Rows of forms with their texts in the place of the forms."""
    return [(low.text(), high.text(), strict) for low, high, strict in rows]


def only(names, text, layers=1):
    """The one case of a script without tests."""
    found = cases(Script.read(names, text, layers=layers))
    assert len(found) == 1
    return found[0]


class Plain(unittest.TestCase):
    def test_beginning(self):
        case = only(["b", "a"], "", 2)
        self.assertIsInstance(case, Case)
        self.assertEqual((case.rows(), case.points(), repr(case)), ([], ["a", "b", "?1", "?2"], "Case(0 rows)"))
        for layer in ("foot", "cart"):
            for x in case.points():
                for y in case.points():
                    expected = ["0"] if x == y else [f"{layer} {x} {y}"]
                    self.assertEqual(texts(case.forms(x, y, layer=layer)), expected)
        self.assertEqual(only([], "").points(), ["?1", "?2"])
        self.assertEqual(texts(only([], "").forms(start="?1", goal="?2")), ["foot ?1 ?2"])

    def test_road(self):
        case = only(AB, "road foot a b 2", 2)
        self.assertEqual(texts(case.forms("?1", "?2")), ["foot ?1 ?2", "foot b ?2 + foot ?1 a + 2"])
        self.assertEqual(texts(case.forms("a", "b")), ["2", "foot a b"])
        self.assertEqual(texts(case.forms("b", "a")), ["foot b a"])
        self.assertEqual(texts(case.forms("?2", "b")), ["foot ?2 a + 2", "foot ?2 b"])
        self.assertEqual(texts(case.forms("?1", "?2", layer="cart")), ["cart ?1 ?2"])

    def test_ride(self):
        case = only(AB, "road cart a b 3 ; ride foot a b 1/2", 2)
        self.assertEqual(texts(case.forms("a", "b")), ["7/2", "cart a b + 1/2", "foot a b"])
        self.assertEqual(texts(case.forms("a", "b", layer="cart")), ["3", "cart a b"])
        self.assertEqual(texts(only(AB, "ride cart a a 1", 2).forms("a", "b", layer="cart")), ["cart a b"])

    def test_place(self):
        case = only(AB, "place c a 1 2 ; forget a ; place a b 3 4")
        self.assertEqual(case.points(), ["a", "b", "+1", "+2", "?1", "?2"])
        self.assertEqual(texts(case.forms("a", "+1")), ["1"])
        self.assertEqual(texts(case.forms("+1", "a")), ["2"])
        self.assertEqual(texts(case.forms("+1", "?1")), ["foot a ?1 + 2"])
        self.assertEqual(texts(case.forms("+1", "+2")), ["foot a b + 5"])
        self.assertEqual(texts(case.forms("+2", "+1")), ["foot b a + 5"])
        self.assertEqual(texts(case.forms("?2", "+2")), ["foot ?2 b + 3"])

    def test_names_stand_for_their_points(self):
        case = only(AB, "forget a ; place a b 3 4 ; road foot a b 1")
        self.assertEqual(texts(case.forms("+1", "b")), ["1"])
        self.assertEqual(texts(case.forms("a", "b")), ["foot a b"])

    def test_same(self):
        case = only(AB, "same a b", 2)
        self.assertEqual(texts(case.forms("a", "b")) + texts(case.forms("b", "a", layer="cart")), ["0", "0"])
        self.assertEqual(texts(case.forms("a", "?1")), ["foot a ?1", "foot b ?1"])

    def test_cap_scale_turn_round(self):
        self.assertEqual(texts(only(AB, "cap foot 3").forms("a", "?1")), ["3", "foot a ?1"])
        self.assertEqual(texts(only(AB, "cap foot 0").forms("?1", "?2")), ["0"])
        self.assertEqual(texts(only(AB, "cap foot 3 ; scale foot 2/3").forms("?1", "b")), ["2", "2/3 foot ?1 b"])
        self.assertEqual(texts(only(AB, "turn").forms("?1", "b")), ["foot b ?1"])
        self.assertEqual(texts(only([], "cap foot 1 ; round foot").forms("?1", "?2")),
                         ["2", "foot ?1 ?2 + 1", "foot ?1 ?2 + foot ?2 ?1", "foot ?2 ?1 + 1"])
        self.assertEqual(texts(only([], "round cart", 2).forms("?2", "?1")), ["foot ?2 ?1"])
        self.assertEqual(texts(only(AB, "round foot").forms("a", "a")), ["0"])

    def test_scales_one_after_the_other(self):
        case = only(AB, "road foot a b 1/3 ; repeat 3 ( scale foot 1/2 ) ; cap foot 2/5 ; scale foot 5/7")
        self.assertEqual(texts(case.forms("a", "b")), ["5/168", "5/56 foot a b"])
        self.assertEqual(texts(case.forms("b", "a")), ["2/7", "5/56 foot b a"])

    def test_long_numbers(self):
        long = 10 ** 29 + 1
        script = Script(AB, (("scale", "foot", (1, long)), ("road", "foot", "a", "b", (1, long - 2)),
                             ("scale", "foot", (long, 2))))
        found = cases(script)[0].forms("a", "b")
        self.assertEqual(found, sorted([Form((long, 2 * (long - 2))), Form(0, [(("foot", "a", "b"), (1, 2))])],
                                       key=lambda form: form.text()))

    def test_wrong_layers_and_points(self):
        case = only(AB, "place c a 1 1")
        for value in [*ODD_VALUES, 0, "cart", "rail"]:
            self.assertEqual(raised(self, InvalidLayer, case.forms, "x", None, layer=value).given, value)
        for value in [*ODD_VALUES, 0, "c", "+2", "?3", "+0"]:
            self.assertEqual(raised(self, InvalidPoint, case.forms, value, "x").given, value)
            self.assertEqual(raised(self, InvalidPoint, case.forms, "+1", value).given, value)
            self.assertEqual(raised(self, InvalidPoint, only([], "").forms, value, value).given, value)
        self.assertEqual(texts(only([], "", 2).forms("?1", "?2", layer="cart")), ["cart ?1 ?2"])

    def test_lists_are_new(self):
        case = cases(Script.read(AB, "if foot a b 1 ( ) else ( cap foot 1 )"))[0]
        case.rows().append(None)
        case.points().clear()
        case.forms("a", "b").append(None)
        self.assertEqual((told(case.rows()), case.points(), texts(case.forms("a", "b"))),
                         ([("foot a b", "1", False)], ["a", "b", "?1", "?2"], ["foot a b"]))


class Tests(unittest.TestCase):
    def rows(self, names, text, layers=1):
        return [told(case.rows()) for case in cases(Script.read(names, text, layers=layers))]

    def test_one(self):
        found = cases(Script.read(AB, "if foot a b 2 ( cap foot 1 ) else ( turn ) ; scale foot 2"))
        self.assertEqual([told(case.rows()) for case in found],
                         [[("foot a b", "2", False)], [("2", "foot a b", True)]])
        self.assertEqual([texts(case.forms("a", "?1")) for case in found], [["2", "2 foot a ?1"], ["2 foot ?1 a"]])
        self.assertEqual([repr(case) for case in found], ["Case(1 rows)", "Case(1 rows)"])

    def test_forms_in_their_order(self):
        self.assertEqual(self.rows(AB, "road foot a b 3 ; if foot a b 1/2 ( ) else ( )"),
                         [[("3", "1/2", False)], [("foot a b", "1/2", False)],
                          [("1/2", "3", True), ("1/2", "foot a b", True)]])

    def test_a_place_and_itself(self):
        self.assertEqual(self.rows(AB, "if foot a a 0 ( ) else ( )"), [[("0", "0", False)], [("0", "0", True)]])

    def test_two(self):
        text = "if foot a b 1 ( ) else ( cap foot 4 ) ; if foot b a 2 ( ) else ( )"
        self.assertEqual(self.rows(AB, text), [
            [("foot a b", "1", False), ("foot b a", "2", False)],
            [("foot a b", "1", False), ("2", "foot b a", True)],
            [("1", "foot a b", True), ("4", "2", False)],
            [("1", "foot a b", True), ("foot b a", "2", False)],
            [("1", "foot a b", True), ("2", "4", True), ("2", "foot b a", True)]])

    def test_one_in_another_one(self):
        text = "if foot a b 1 ( if foot b a 2 ( turn ) else ( ) ) else ( if foot a b 3 ( ) else ( ) )"
        self.assertEqual(self.rows(AB, text), [
            [("foot a b", "1", False), ("foot b a", "2", False)], [("foot a b", "1", False), ("2", "foot b a", True)],
            [("1", "foot a b", True), ("foot a b", "3", False)], [("1", "foot a b", True), ("3", "foot a b", True)]])

    def test_in_a_repeat(self):
        self.assertEqual(self.rows(AB, "repeat 2 ( if cart a b 1 ( turn ) else ( scale cart 1/2 ) )", 2), [
            [("cart a b", "1", False), ("cart b a", "1", False)],
            [("cart a b", "1", False), ("1", "cart b a", True)],
            [("1", "cart a b", True), ("1/2 cart a b", "1", False)],
            [("1", "cart a b", True), ("1", "1/2 cart a b", True)]])

    def test_too_many_cases(self):
        # Behind these steps the distances have 4, 3 and 2 forms: 5 * 4 * 3 cases for three tests of them.
        steps = "road foot a c 1 ; road foot c b 1 ; cap foot 5"
        first, second, third = ["if foot a b 9 ( ", "if foot b c 9 ( ", "if foot c b 9 ( "]
        rest = ") else ( )"
        text = f"{steps} ; {first}{rest} ; {second}{rest} ; {third}{rest}"
        self.assertEqual(len(cases(Script.read(ABC, text))), 60)
        # Here the last two tests are in the first part of the first one: 4 * 3 * 5 + 1 cases.
        text = f"{steps} ; {first}{third}{rest} ; {first}{rest} {rest}"
        error = raised(self, TooMany, cases, Script.read(ABC, text))
        self.assertEqual((error.subject, error.most), ("cases", 60))
        error = raised(self, TooMany, cases, Script.read(ABC, f"{steps} ; repeat 3 ( {first}{rest} )"))
        self.assertEqual((error.subject, error.most), ("cases", 60))

    def test_too_many_forms(self):
        text = "road foot a b 1 ; road foot b c 2 ; road foot c a 3 ; round foot ; round foot"
        script = Script.read(ABC, text)
        try:
            found = cases(script)
        except TooMany as error:
            self.assertEqual((error.subject, error.most), ("forms", 200))
        else:
            self.assertGreater(len(found[0].forms("?1", "?2")), 200)


class Beside(unittest.TestCase):
    """Cases beside the document's own words, and beside what run tells."""

    def scripts(self, seed, many, most):
        source = random.Random(seed)
        for _ in range(many):
            names, layers = ABC[:source.randint(0, 3)], source.choice([1, 1, 2])
            script = draw_script(source, names, layers, most)
            try:
                yield source, script, cases(script)
            except TooMany as error:
                self.assertIn((error.subject, error.most), [("cases", 60), ("forms", 200)])

    def test_word_by_word(self):
        tests = 0
        for _, script, found in self.scripts(5, 60, 4):
            expected = naive_cases(script)
            self.assertEqual([told(case.rows()) for case in found], [told(way.rows) for way in expected], script.text())
            for case, way in zip(found, expected):
                self.assertEqual(case.points(), way.points)
                for key, forms in way.far.items():
                    self.assertEqual(texts(case.forms(key[1], key[2], layer=key[0])), texts(forms), script.text())
            tests += script.tests
        self.assertGreater(tests, 10)

    def test_run(self):
        for source, script, found in self.scripts(6, 60, 5):
            world = draw_world(source, script.names(), script.layers)
            behind = run(script, world)
            kept = [case for case in found if all(self.is_kept(row, world) for row in case.rows())]
            self.assertTrue(kept)
            for case in kept:
                self.compare(source, script, case, world, behind)

    def is_kept(self, row, world):
        low, high, strict = row
        if strict:
            return is_less(low.value(world), high.value(world))
        return not is_less(high.value(world), low.value(world))

    def compare(self, source, script, case, world, behind):
        strangers = [source.randrange(world.size), source.randrange(world.size)]
        places = {name: world.place(name) for name in script.names()}
        places.update({f"+{k + 1}": world.size + k for k in range(script.puts)})
        places.update(zip(("?1", "?2"), strangers))
        for layer in ("foot", "cart")[:script.layers]:
            for x in case.points():
                for y in case.points():
                    values = [Fraction(*form.value(world, *strangers)) for form in case.forms(x, y, layer=layer)]
                    far = Fraction(*behind.far(places[x], places[y], layer=layer))
                    self.assertEqual(min(values), far, script.text())


class Triangles(unittest.TestCase):
    def test_plain(self):
        self.assertEqual(told(triangles(["a", "?1", "b"], 1)), [
            ("foot a b", "foot a ?1 + foot ?1 b", False), ("foot a ?1", "foot a b + foot b ?1", False),
            ("foot ?1 b", "foot a b + foot ?1 a", False), ("foot ?1 a", "foot b a + foot ?1 b", False),
            ("foot b ?1", "foot a ?1 + foot b a", False), ("foot b a", "foot b ?1 + foot ?1 a", False)])

    def test_few_points(self):
        for points in [[], ["a"], ["a", "b"], ["?1", "?2"]]:
            self.assertEqual(triangles(points, 2), [])

    def test_layers_and_order(self):
        points = ("b", "a", "?2", "?1")
        rows = triangles(points, 2)
        expected = []
        for layer in ("foot", "cart"):
            for x in points:
                for y in points:
                    for z in points:
                        if len({x, y, z}) == 3:
                            low = Form(0, [((layer, x, z), 1)])
                            expected.append((low, Form(0, [((layer, x, y), 1), ((layer, y, z), 1)]), False))
        self.assertEqual(rows, expected)
        self.assertEqual(triangles(list(points), 1), expected[:24])
        rows.clear()
        self.assertEqual(len(triangles(points, 2)), 48)


if __name__ == "__main__":
    unittest.main()
