"""Promise [18], and the entry of missingmiles/facts.py."""

import itertools
import random
import unittest
from fractions import Fraction

from missingmiles.errors import (DuplicateName, InvalidFact, InvalidLayer, InvalidName, InvalidNumber, NoWorld,
                                 TooMany, UnknownName)
from missingmiles.facts import extreme, fact_row, is_fact, keeps, surely, survey, survey_problem
from missingmiles.forms import Form
from missingmiles.straight import Barred, Endless, Top
from missingmiles.worlds import World
from tests.drawing import draw_facts, draw_world
from tests.helpers import ODD_VALUES, raised

AB = ["a", "b"]
ABC = ["a", "b", "c"]
CHAIN = ("most", (("foot", "a", "b", 1), ("foot", "b", "c", 1)), 4)


def most(bound, *parts):
    return ("most", parts, bound)


def least(bound, *parts):
    return ("least", parts, bound)


def far(start, goal, factor=1, layer="foot"):
    """A part of a fact."""
    return (layer, start, goal, factor)


def wrong_facts(layers=1):
    """What is no fact about a and b: each part of a fact by values of another kind."""
    wrong = [*ODD_VALUES, 0, "most", ("most",), ("most", ()), ("most", (), 1, 1), ["most", (), 1], ("Most", (), 1),
             ("equal", (), 1), (None, (), 1), (1, (), 1), (["most"], (), 1), ("most", [], 1), ("most", None, 1),
             ("most", [far("a", "b")], 1), ("most", far("a", "b"), 1), ("most", (list(far("a", "b")),), 1),
             most(1, far("a", "b"), far("a", "b")), most(1, far("a", "b"), far("b", "a"), far("a", "b", 2)),
             most(1, ("foot", "a", "b")), most(1, ("foot", "a", "b", 1, 1)), most(1, far("a", "a")),
             most(1, far("a", "c")), most(1, far("c", "a")), most(1, far("a", "?1")), most(1, far(0, 1)),
             most(1, far("a", "b", 0)), most(1, far("a", "b", 10)), most(1, far("a", "b", -10)),
             most(1, far("a", "b", (1, 1))), most(1, far("a", "b", (1, 2))), most(1, far("a", "b", "1")),
             most(1, far("a", "b", layer="rail")), most(1, far("a", "b"), None), most((2, 2)), most("1"), most([1, 2])]
    wrong.extend([("most", (), odd) for odd in ODD_VALUES])
    wrong.extend([most(1, odd) for odd in ODD_VALUES])
    wrong.extend([("most", odd, 1) for odd in ODD_VALUES if odd != ()])
    for odd in ODD_VALUES:
        wrong.extend([most(1, (odd, "a", "b", 1)), most(1, ("foot", odd, "b", 1)), most(1, ("foot", "a", odd, 1)),
                      least(1, ("foot", "a", "b", odd))])
    return wrong + ([most(1, far("a", "b", layer="cart"))] if layers == 1 else [])


class Facts(unittest.TestCase):
    def test_facts(self):
        for fact in [most(0), least(-1), most((-1, 2)), least(3, far("a", "b")), most(1, far("a", "b", -9)),
                     least((1, 3), far("b", "a", 9), far("a", "b", -1))]:
            self.assertIs(is_fact(fact, AB), True)
            self.assertIs(is_fact(fact, ("b", "a", "c"), 2), True)
        self.assertIs(is_fact(most(1, far("a", "b"), far("a", "b", layer="cart")), AB, 2), True)
        self.assertIs(is_fact(value=most(0), names=[], layers=1), True)
        self.assertIs(is_fact(most(1, far("a", "b", layer="cart")), AB), False)

    def test_wrong_facts(self):
        for layers in (1, 2):
            for value in wrong_facts(layers):
                self.assertIs(is_fact(value, AB, layers), False, value)
        self.assertIs(is_fact(most(1, far("a", "b")), []), False)
        self.assertIs(is_fact(most(1, far("a", "b")), ["a"]), False)

    def test_rows(self):
        ab, ba = ("foot", "a", "b"), ("foot", "b", "a")
        for fact, low, high in [
                (most(3, far("a", "b", 2)), Form(0, [(ab, 2)]), Form(3)),
                (most(3, far("a", "b", 2), far("b", "a", -1)), Form(0, [(ab, 2)]), Form(3, [(ba, 1)])),
                (most((-1, 2), far("a", "b"), far("b", "a", -3)), Form((1, 2), [(ab, 1)]), Form(0, [(ba, 3)])),
                (least(3, far("a", "b", 2)), Form(3), Form(0, [(ab, 2)])),
                (least((-3, 4), far("a", "b", 2), far("b", "a", -1)), Form(0, [(ba, 1)]), Form((3, 4), [(ab, 2)])),
                (least(3, far("a", "b", -2)), Form(3, [(ab, 2)]), Form()),
                (most(0), Form(), Form()), (least(0, far("a", "b")), Form(), Form(0, [(ab, 1)])),
                (least((-1, 2)), Form(), Form((1, 2))), (least(1), Form(1), Form()), (most(-1), Form(1), Form())]:
            self.assertEqual(fact_row(fact), (low, high, False))

    def test_keeps(self):
        world = World({"a": 0, "b": 1}, [[0, 4], [7, 0]], cart=[[0, (1, 2)], [1, 0]])
        for fact, kept in [(most(4, far("a", "b")), True), (most((39, 10), far("a", "b")), False),
                           (least(4, far("a", "b")), True), (least((41, 10), far("a", "b")), False),
                           (most(-3, far("a", "b"), far("b", "a", -1)), True),
                           (most((-31, 10), far("a", "b"), far("b", "a", -1)), False),
                           (least(5, far("a", "b"), far("a", "b", 2, "cart")), True),
                           (least(6, far("a", "b"), far("a", "b", 2, "cart")), False),
                           (most(0), True), (most(-1), False), (least(1), False), (least(0), True)]:
            self.assertIs(keeps(world, [fact]), kept)
            self.assertIs(keeps(world, (most(9, far("a", "b")), fact)), kept)
        self.assertIs(keeps(world, []), True)
        five = World({"p": 0, "q": 1, "r": 2, "s": 3, "t": 4}, [[0] * 5] * 5)
        self.assertIs(keeps(five, [most(0, far("p", "t"))]), True)

    def test_keeps_of_wrong_facts(self):
        one = World({"a": 0, "b": 1}, [[0, 4], [7, 0]])
        two = World({"a": 0, "b": 1}, [[0, 4], [7, 0]], cart=[[0, 4], [7, 0]])
        for layers, world in [(1, one), (2, two)]:
            for value in wrong_facts(layers):
                self.assertEqual(raised(self, InvalidFact, keeps, world, [most(-1), value, None]).at, 1)

    def test_keeps_of_drawn_worlds(self):
        source = random.Random(1)
        for _ in range(60):
            layers = source.choice([1, 2])
            facts, world = draw_facts(source, ABC, layers), draw_world(source, ABC, layers)
            kept = True
            for word, parts, bound in facts:
                total = sum(factor * Fraction(*world.far(x, y, layer=layer)) for layer, x, y, factor in parts)
                limit = Fraction(*bound) if isinstance(bound, tuple) else bound
                kept = kept and (total <= limit if word == "most" else total >= limit)
            self.assertIs(keeps(world, facts), kept)


class Problems(unittest.TestCase):
    def test_plain(self):
        problem = survey_problem(["b", "a"], [most(3, far("b", "a", 2), far("a", "b", -1)), least(1, far("a", "b"))])
        self.assertEqual(problem.size, 2)
        self.assertEqual(problem.rows(), [(((-1, 1), (2, 1)), (3, 1), False), (((-1, 1), (0, 1)), (-1, 1), False)])
        self.assertEqual((survey_problem([], []).size, survey_problem(["a"], [], layers=2).size), (0, 0))
        self.assertEqual(survey_problem([], [most(-1), least(-1)]).rows(), [((), (-1, 1), False), ((), (1, 1), False)])

    def test_keys_and_triangles(self):
        problem = survey_problem(["c", "a", "b"], [most((1, 2), far("c", "b", 3, "cart"), far("a", "c", -2))], layers=2)
        keys = [(layer, x, y) for layer in ("foot", "cart") for x in "abc" for y in "abc" if x != y]
        self.assertEqual(problem.size, 12)
        expected = []
        for layer in ("foot", "cart"):
            for x, y, z in itertools.permutations("abc"):
                ways = {(layer, x, z): 1, (layer, x, y): -1, (layer, y, z): -1}
                expected.append((tuple((ways.get(key, 0), 1) for key in keys), (0, 1), False))
        parts = {("cart", "c", "b"): 3, ("foot", "a", "c"): -2}
        expected.append((tuple((parts.get(key, 0), 1) for key in keys), (1, 2), False))
        self.assertEqual(problem.rows(), expected)

    def errors(self, call):
        """The errors of survey_problem, in their order, of a call with names, facts and layers."""
        for value in ODD_VALUES + [0, "A"]:
            self.assertEqual(raised(self, InvalidName, call, ["a", "a", value], [None], 3).given, value)
            self.assertEqual(raised(self, InvalidNumber, call, ["a"], [None], value).given, value)
        self.assertEqual(raised(self, DuplicateName, call, ["a", "b", "c", "d", "b"], [None], 3).name, "b")
        error = raised(self, TooMany, call, ["a", "b", "c", "d"], [None], 3)
        self.assertEqual((error.subject, error.most), ("names", 3))
        self.assertEqual(raised(self, InvalidNumber, call, AB, [None], 3).given, 3)
        for layers in (1, 2):
            for value in wrong_facts(layers):
                self.assertEqual(raised(self, InvalidFact, call, AB, [most(-1), value, None], layers).at, 1)

    def test_errors(self):
        self.errors(lambda names, facts, layers: survey_problem(names, facts, layers=layers))

    def test_errors_of_survey(self):
        self.errors(lambda names, facts, layers: survey(names, facts, layers=layers))

    def test_errors_of_extreme(self):
        self.errors(lambda names, facts, layers: extreme(names, facts, "x", None, layer="rail", layers=layers))

    def test_errors_of_surely(self):
        self.errors(lambda names, facts, layers: surely(names, facts, None, layers=layers))
        for value in wrong_facts():
            self.assertEqual(raised(self, InvalidFact, surely, AB, [most(-1)], value).at, 1)
            self.assertEqual(raised(self, InvalidFact, surely, ("a", "b"), (), value).at, 0)

    def test_facts_are_not_changed(self):
        names, facts = ["b", "a"], [most(3, far("a", "b"))]
        survey_problem(names, facts)
        survey(names, facts)
        extreme(names, facts, "a", "b")
        surely(names, facts, most(4, far("a", "b")))
        self.assertEqual((names, facts), (["b", "a"], [most(3, far("a", "b"))]))


class Surveys(unittest.TestCase):
    def test_plain(self):
        facts = [least(3, far("a", "b")), most(1, far("b", "a")), least((5, 2), far("c", "a", layer="cart"))]
        world = survey(["c", "a", "b"], facts, layers=2)
        self.assertEqual((world.size, world.layers, world.names()), (3, 2, ABC))
        self.assertEqual([world.place(name) for name in ABC], [0, 1, 2])
        self.assertTrue(keeps(world, facts))
        self.assertEqual(survey(["a"], []), World({"a": 0}, [[0]]))
        self.assertEqual(survey(["a"], [], layers=2), World({"a": 0}, [[0]], cart=[[0]]))

    def test_no_world(self):
        raised(self, NoWorld, survey, AB, [most(-1)])
        raised(self, NoWorld, survey, AB, [most(1, far("a", "b")), least((11, 10), far("a", "b"))])
        raised(self, NoWorld, survey, ABC, [CHAIN, least(5, far("a", "c"))])
        raised(self, NoWorld, survey, AB, [most(-1, far("a", "b"))])
        self.assertTrue(survey(ABC, [CHAIN, least(4, far("a", "c"))]))

    def test_without_names(self):
        self.assertEqual(raised(self, InvalidNumber, survey, [], []).given, 0)
        self.assertEqual(raised(self, InvalidNumber, survey, [], [most(-1)]).given, 0)
        self.assertEqual(raised(self, InvalidFact, survey, [], [None]).at, 0)

    def test_drawn(self):
        source = random.Random(2)
        found = 0
        for _ in range(80):
            layers = source.choice([1, 2])
            facts = [*draw_facts(source, ABC, layers), *draw_facts(source, ABC, layers)]
            worlds = [draw_world(source, ABC, layers) for _ in range(10)]
            try:
                self.assertTrue(keeps(survey(ABC, facts, layers=layers), facts))
                found += 1
            except NoWorld:
                self.assertFalse(any(keeps(world, facts) for world in worlds))
        self.assertTrue(10 < found < 80)


class Extremes(unittest.TestCase):
    def test_document(self):
        self.assertEqual(extreme(ABC, [CHAIN], "a", "c").told(), "top 4")
        self.assertIs(surely(ABC, [CHAIN], most(8, far("a", "c", 2))), True)

    def test_greatest_and_least(self):
        facts = [CHAIN, least((3, 2), far("a", "c"))]
        for start, goal, greatest, told in [("a", "c", True, "top 4"), ("a", "c", False, "top -3/2"),
                                            ("a", "b", True, "top 4"), ("a", "b", False, "top 0"),
                                            ("c", "a", True, "endless"), ("c", "a", False, "top 0"),
                                            ("a", "a", True, "top 0"), ("b", "b", False, "top 0")]:
            answer = extreme(ABC, facts, start, goal, greatest=greatest)
            self.assertEqual(answer.told(), told)
            self.assertTrue(answer.holds())
            self.assertEqual(answer.problem, survey_problem(ABC, facts))
        factors = [(0, 1)] * 12
        factors[10] = (1, 1)
        answer = extreme(["c", "b", "a"], [], "c", "a", layer="cart", layers=2)
        self.assertIsInstance(answer, Endless)
        self.assertEqual(answer.factors(), factors)
        factors[10] = (-1, 1)
        answer = extreme(ABC, [], "c", "a", layer="cart", layers=2, greatest=False)
        self.assertIsInstance(answer, Top)
        self.assertEqual((answer.factors(), answer.number), (factors, (0, 1)))

    def test_no_world(self):
        for start, goal in [("a", "b"), ("a", "a")]:
            answer = extreme(AB, [most(-1)], start, goal)
            self.assertIsInstance(answer, Barred)
            self.assertTrue(answer.holds())

    def test_wrong_layers_and_names(self):
        for value in [*ODD_VALUES, 0, "cart", "rail"]:
            self.assertEqual(raised(self, InvalidLayer, extreme, AB, [], None, "x", layer=value).given, value)
        for value in [*ODD_VALUES, 0, "c", "?1"]:
            self.assertEqual(raised(self, UnknownName, extreme, AB, [], value, "x").name, value)
            self.assertEqual(raised(self, UnknownName, extreme, AB, [], "a", value, layers=2, layer="cart").name, value)
        self.assertEqual(raised(self, UnknownName, extreme, [], [], "a", "a").name, "a")


class Surely(unittest.TestCase):
    def test_follows(self):
        for facts, fact in [([CHAIN], most(4, far("a", "c"))), ([CHAIN], most(5, far("a", "c"))),
                            ([CHAIN], most(4, far("a", "b"))), ([CHAIN], CHAIN), ([], least(0, far("a", "b"))),
                            ([], most(0, far("a", "c"), far("a", "b", -1), far("b", "c", -1))), ([], most(0)),
                            ([], least(0)), ([most(2, far("a", "b")), most(3, far("b", "c"))], most(5, far("a", "c"))),
                            ([most(2, far("a", "b")), least(9, far("a", "c"))], least(7, far("b", "c"))),
                            ([most(-1)], most(-2)), ([most(-1)], most(0, far("a", "b")))]:
            self.assertIs(surely(ABC, facts, fact), True)

    def test_does_not_follow(self):
        for facts, fact in [([CHAIN], most((39, 10), far("a", "c"))), ([CHAIN], most(4, far("c", "a"))),
                            ([], most(0, far("a", "b"))), ([], most(-1)), ([], least(1)),
                            ([], least((1, 100), far("a", "b"))), ([CHAIN], least(1, far("a", "b"))),
                            ([], most(0, far("a", "b"), far("b", "a", -1)))]:
            self.assertIs(surely(ABC, facts, fact), False)
            self.assertIs(surely(ABC, tuple(facts), fact, layers=2), False)

    def test_without_names(self):
        self.assertIs(surely([], [], most(0)), True)
        self.assertIs(surely([], [], most(-1)), False)
        self.assertIs(surely([], [least(1)], most(-1)), True)

    def test_layers(self):
        cart = [most(2, far("a", "b", layer="cart")), most(1, far("b", "c", layer="cart"))]
        self.assertIs(surely(ABC, cart, most(3, far("a", "c", layer="cart")), layers=2), True)
        self.assertIs(surely(ABC, cart, most(3, far("a", "c")), layers=2), False)

    def test_beside_extremes(self):
        source = random.Random(3)
        for _ in range(40):
            facts = draw_facts(source, ABC, 1)
            start, goal = source.sample(ABC, 2)
            top = extreme(ABC, facts, start, goal)
            for bound in range(8):
                expected = not top or isinstance(top, Top) and Fraction(*top.number) <= bound
                self.assertIs(surely(ABC, facts, most(bound, far(start, goal))), expected)


if __name__ == "__main__":
    unittest.main()
