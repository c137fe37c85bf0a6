"""Promises [10] and [11], and the entry of missingmiles/forms.py."""

import itertools
import random
import unittest
from fractions import Fraction

from missingmiles.errors import InvalidForm, InvalidLayer, InvalidPlace, UnknownName
from missingmiles.forms import Form, plain_forms
from missingmiles.worlds import World
from tests.helpers import ODD_VALUES, raised

AB = ("foot", "a", "b")
BA = ("foot", "b", "a")
CART = ("cart", "?1", "b")
KEYS = [AB, BA, ("foot", "a", "?1"), ("foot", "?1", "a"), ("foot", "?1", "?2"), ("cart", "a", "b"), CART]
# The keys in the order of [11]: foot first, names ahead of strangers.
ORDERED = [("foot", "a", "b"), ("foot", "a", "zz"), ("foot", "a", "?1"), ("foot", "a", "?2"), ("foot", "b", "a"),
           ("foot", "b", "?2"), ("foot", "zz", "a"), ("foot", "?1", "a"), ("foot", "?1", "zz"),
           ("foot", "?1", "?2"), ("foot", "?2", "b"), ("foot", "?2", "?1"), ("cart", "a", "b"), ("cart", "b", "a"),
           ("cart", "?1", "?2")]


def wrong_keys():
    """What is no key, among it keys with each item of another kind."""
    wrong = [*ODD_VALUES, 0, "foot a b", list(AB), ("foot", "a"), ("foot", "a", "b", "c"), ("rail", "a", "b"),
             ("Foot", "a", "b"), ("foot", "a", "a"), ("foot", "?1", "?1"), ("foot", "A", "b"), ("foot", "a", "?3"),
             ("foot", "+1", "b"), ("foot", "a", "+1"), ("foot", 0, 1), ("foot", "abcdef", "b"), ("foot", "", "b")]
    for odd in ODD_VALUES:
        wrong.extend([(odd, "a", "b"), ("foot", odd, "b"), ("foot", "a", odd)])
    return wrong


def draw_form(source):
    """A form with some of the keys."""
    keys = source.sample(KEYS, source.randint(0, 3))
    return Form(source.randint(0, 3), [(key, Fraction(source.randint(1, 3)).as_integer_ratio()) for key in keys])


class Constructor(unittest.TestCase):
    def test_plain(self):
        form = Form((1, 2), [(CART, (3, 2)), (AB, 2)])
        self.assertEqual(form.constant, (1, 2))
        self.assertEqual(form.parts(), [(AB, (2, 1)), (CART, (3, 2))])
        self.assertEqual([form.factor(AB), form.factor(CART), form.factor(BA)], [(2, 1), (3, 2), (0, 1)])
        self.assertTrue(form)
        self.assertEqual(repr(form), "Form(2 foot a b + 3/2 cart ?1 b + 1/2)")

    def test_zero(self):
        for form in [Form(), Form(0), Form((0, 1), ()), Form(constant=0, parts=[])]:
            self.assertEqual((form.constant, form.parts(), form.text(), repr(form)), ((0, 1), [], "0", "Form(0)"))
            self.assertTrue(form)

    def test_any_order(self):
        parts = [(key, at + 1) for at, key in enumerate(ORDERED)]
        source = random.Random(1)
        for _ in range(30):
            shuffled = source.sample(parts, len(parts))
            form = Form(3, shuffled)
            self.assertEqual(form.parts(), [(key, (at + 1, 1)) for at, key in enumerate(ORDERED)])
            self.assertEqual(form, Form((3, 1), tuple(parts)))

    def test_wrong_constants(self):
        for value in [value for value in ODD_VALUES] + [-1, (-1, 2), (2, 2), "1", [1, 2]]:
            self.assertEqual(raised(self, InvalidForm, Form, value, [None]).given, value)

    def test_wrong_parts(self):
        wrong = [*ODD_VALUES, 0, AB, (AB,), (AB, 1, 1), [AB, 1], (1, AB), (AB, 0), (AB, -1), (AB, (0, 1)),
                 (AB, (-1, 2)), (AB, (2, 2)), (AB, "1"), (AB, True), (AB, None), (AB, [1, 2])]
        wrong.extend([(key, 1) for key in wrong_keys()])
        for value in wrong:
            for parts in [[value], [(BA, 1), value, None], ((BA, (1, 2)), value)]:
                self.assertEqual(raised(self, InvalidForm, Form, 1, parts).given, value)

    def test_keys_that_stand_there_before(self):
        self.assertEqual(raised(self, InvalidForm, Form, 0, [(AB, 1), (BA, 1), (AB, 2), None]).given, (AB, 2))
        self.assertEqual(raised(self, InvalidForm, Form, 0, [(AB, 1), (AB, 1)]).given, (AB, 1))
        self.assertEqual(raised(self, InvalidForm, Form, 0, [(AB, 1), None, (AB, 1)]).given, None)

    def test_lists_are_copied(self):
        parts = [(AB, 1)]
        form = Form(0, parts)
        parts.append((BA, 1))
        form.parts().append((BA, 1))
        self.assertEqual(form.parts(), [(AB, (1, 1))])


class Texts(unittest.TestCase):
    def test_document(self):
        form = Form(3, [(CART, (1, 2)), (("foot", "a", "?1"), 1)])
        self.assertEqual(form.text(), "foot a ?1 + 1/2 cart ?1 b + 3")

    def test_plain(self):
        for form, text in [(Form(5), "5"), (Form((5, 3)), "5/3"), (Form(0, [(AB, 1)]), "foot a b"),
                           (Form(1, [(AB, 1)]), "foot a b + 1"), (Form((1, 7), [(AB, 12)]), "12 foot a b + 1/7"),
                           (Form(0, [(BA, (2, 3)), (AB, (1, 1))]), "foot a b + 2/3 foot b a")]:
            self.assertEqual((form.text(), repr(form)), (text, f"Form({text})"))

    def test_all_keys(self):
        form = Form(0, [(key, 1) for key in reversed(ORDERED)])
        self.assertEqual(form.text(), " + ".join(" ".join(key) for key in ORDERED))


class Values(unittest.TestCase):
    def setUp(self):
        self.foot = [[0, 4, 5], [7, 0, 3], [6, 2, 0]]
        self.world = World({"a": 0, "b": 2}, self.foot, cart=[[0, 1, 1], [1, 0, 1], [1, (1, 2), 0]])

    def test_plain(self):
        form = Form((1, 2), [(AB, 2), (CART, (1, 3)), (("foot", "?2", "?1"), 1)])
        # 1/2 + 2 * 5 + 1/3 * 1 + 2, and the strangers at b.
        self.assertEqual(form.value(self.world, 1, 2), (77, 6))
        self.assertEqual(form.value(self.world, 2, 2), (21, 2))
        self.assertEqual(Form(3).value(self.world), (3, 1))
        self.assertEqual(Form(0, [(BA, (1, 2))]).value(self.world), (3, 1))
        self.assertEqual(Form(0, [(("foot", "?1", "a"), 1)]).value(self.world, 1), (7, 1))

    def test_strangers_at_any_place(self):
        form = Form(0, [(("foot", "?1", "?2"), 1)])
        for one, other in itertools.product(range(3), repeat=2):
            self.assertEqual(form.value(self.world, one, other), (self.foot[one][other], 1))

    def test_wrong_places(self):
        form = Form(0, [(("foot", "x", "?1"), 1)])
        for value in [*ODD_VALUES, 3, -1, "a", (0, 1)]:
            self.assertEqual(raised(self, InvalidPlace, form.value, self.world, value).given, value)
            self.assertEqual(raised(self, InvalidPlace, form.value, self.world, value, 9).given, value)
            self.assertEqual(raised(self, InvalidPlace, form.value, self.world, 0, value).given, value)

    def test_unknown_points(self):
        for parts, strangers, name in [([(("foot", "x", "y"), 1)], (), "x"), ([(("foot", "a", "y"), 1)], (), "y"),
                                       ([(("foot", "a", "?1"), 1)], (), "?1"), ([(("foot", "?2", "?1"), 1)], (), "?2"),
                                       ([(("foot", "?2", "?1"), 1)], (0,), "?2"), ([(AB, 1), (CART, 1)], (), "?1"),
                                       ([(("foot", "a", "?2"), 1)], (1,), "?2")]:
            self.assertEqual(raised(self, UnknownName, Form(0, parts).value, self.world, *strangers).name, name)

    def test_layers(self):
        world = World({"a": 0, "b": 2}, self.foot)
        self.assertEqual(raised(self, InvalidLayer, Form(0, [(AB, 1), (CART, 1)]).value, world, 0).given, "cart")
        # Part by part: the layer of an earlier part counts ahead of the points of a later one.
        form = Form(0, [(("cart", "a", "b"), 1), (("cart", "x", "b"), 1)])
        self.assertEqual(raised(self, InvalidLayer, form.value, world).given, "cart")
        form = Form(0, [(("foot", "x", "b"), 1), (("cart", "a", "b"), 1)])
        self.assertEqual(raised(self, UnknownName, form.value, world).name, "x")
        self.assertEqual(raised(self, UnknownName, Form(0, [(("cart", "a", "x"), 1)]).value, world).name, "x")


class Sums(unittest.TestCase):
    def test_sum(self):
        one, other = Form((1, 2), [(AB, 1), (CART, 2)]), Form(1, [(BA, 3), (AB, (1, 3))])
        self.assertEqual((one + other).text(), "4/3 foot a b + 3 foot b a + 2 cart ?1 b + 3/2")
        self.assertEqual(one + other, other + one)
        self.assertEqual(one + Form(), one)
        self.assertEqual((one.text(), other.text()), ("foot a b + 2 cart ?1 b + 1/2", "1/3 foot a b + 3 foot b a + 1"))

    def test_multiple(self):
        form = Form((1, 2), [(AB, 1), (CART, 2)])
        self.assertEqual((form * 3).text(), "3 foot a b + 6 cart ?1 b + 3/2")
        self.assertEqual((form * (1, 2)).text(), "1/2 foot a b + cart ?1 b + 1/4")
        self.assertEqual((form * 1, Form() * 7), (form, Form()))
        self.assertEqual(form.text(), "foot a b + 2 cart ?1 b + 1/2")
        for value in [*ODD_VALUES, 0, -1, (0, 1), (-1, 2), "1", [1, 2]]:
            self.assertEqual(raised(self, InvalidForm, form.__mul__, value).given, value)

    def test_equal(self):
        self.assertEqual(Form(1, [(AB, 2), (BA, 1)]), Form((1, 1), ((BA, (1, 1)), (AB, (2, 1)))))
        form = Form(1, [(AB, 2)])
        for other in [Form(2, [(AB, 2)]), Form(1, [(AB, 1)]), Form(1), Form(1, [(BA, 2)]), Form(1, [(AB, 2), (BA, 2)]),
                      "2 foot a b + 1", None, 1, (1, 1)]:
            self.assertFalse(form == other)
            self.assertTrue(form != other)


class Under(unittest.TestCase):
    def test_plain(self):
        for one, other, is_it in [(Form(1), Form(1), True), (Form(1), Form(2), True), (Form((3, 2)), Form(1), False),
                                  (Form(), Form(0, [(AB, 1)]), True), (Form(0, [(AB, 1)]), Form(9), False),
                                  (Form(0, [(AB, 1)]), Form(0, [(AB, (1, 2))]), False),
                                  (Form(0, [(AB, (1, 2))]), Form(0, [(AB, 1), (BA, 1)]), True),
                                  (Form(0, [(AB, 1)]), Form(5, [(BA, 1)]), False),
                                  (Form(1, [(AB, 1)]), Form(0, [(AB, 2)]), False)]:
            self.assertIs(one.is_under(other), is_it)

    def test_plain_forms(self):
        forms = [Form(3), Form(2), Form(0, [(AB, 1)]), Form(1, [(AB, 1)]), Form((2, 1)), Form(1, [(BA, 1)])]
        self.assertEqual([form.text() for form in plain_forms(forms)], ["2", "foot a b", "foot b a + 1"])
        self.assertEqual(plain_forms([]), [])
        self.assertEqual(plain_forms((Form(1), Form(1))), [Form(1)])
        self.assertEqual(plain_forms([Form(), *forms]), [Form()])
        self.assertEqual(len(forms), 6)

    def test_texts_in_the_order_of_their_characters(self):
        forms = [Form(0, [(("foot", "?1", "a"), 1)]), Form(0, [(AB, 10), (BA, 9)]), Form(0, [(AB, 9), (BA, 10)]),
                 Form(0, [(("cart", "b", "a"), 1)]), Form((1, 2)), Form((1, 3), [(CART, (1, 7))])]
        texts = [form.text() for form in plain_forms(forms)]
        self.assertEqual(texts, sorted(texts))
        self.assertEqual(texts, ["1/2", "1/7 cart ?1 b + 1/3", "10 foot a b + 9 foot b a", "9 foot a b + 10 foot b a",
                                 "cart b a", "foot ?1 a"])

    def test_drawn(self):
        source = random.Random(3)
        for _ in range(60):
            forms = [draw_form(source) for _ in range(source.randint(0, 8))]
            kept = [form for form in forms if not any(o.is_under(form) and o != form for o in forms)]
            self.assertEqual([form.text() for form in plain_forms(forms)], sorted({form.text() for form in kept}))

    def test_drawn_sums(self):
        source = random.Random(4)
        world = World({"a": 0, "b": 1}, [[0, 4, 5], [7, 0, 3], [6, 2, 0]], cart=[[0, 1, 1], [1, 0, 1], [1, 1, 0]])
        for _ in range(60):
            one, other = draw_form(source), draw_form(source)
            values = [Fraction(*form.value(world, 1, 2)) for form in (one, other, one + other, one * (3, 2))]
            self.assertEqual(values[2:], [values[0] + values[1], values[0] * Fraction(3, 2)])
            self.assertTrue(one.is_under(one + other) and other.is_under(one + other))
            if one.is_under(other):
                self.assertLessEqual(values[0], values[1])


if __name__ == "__main__":
    unittest.main()
