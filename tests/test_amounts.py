"""Promise [17], Amount and Growing, and the entry of missingmiles/amounts.py."""

import random
import unittest

from missingmiles.amounts import Amount, Growing, most_over, most_saved
from missingmiles.asking import Ground
from missingmiles.cases import cases, triangles
from missingmiles.errors import HasTests, TooMany, UnlikeScripts
from missingmiles.forms import Form
from missingmiles.means import Mean
from missingmiles.pairings import looked_at
from missingmiles.ratios import added, is_less, multiplied
from missingmiles.scripts import Script, run
from missingmiles.verdicts import Parted, Verdict
from missingmiles.worlds import World
from tests.drawing import draw_ratio, draw_script, draw_world
from tests.helpers import ODD_VALUES, raised
from tests.test_lists import SWOLLEN, flat

AB = ["a", "b"]
ABC = ["a", "b", "c"]
ZERO = (0, 1)
WIDE = "road foot a b 1 ; road foot b a 1 ; repeat 3 ( if foot a b 9 ( turn ) else ( ) )"


def read(text, names=("a", "b"), layers=1):
    return Script.read(names, text, layers=layers)


class Classes(unittest.TestCase):
    def test_bases(self):
        self.assertEqual((Amount.__bases__, Growing.__bases__), ((Parted,), (Verdict,)))
        self.assertEqual((Amount.KIND, Growing.KIND), ("amount", "growing"))


class Amounts(unittest.TestCase):
    def setUp(self):
        self.one, self.other = read("road foot a b 5"), read("cap foot 3/2")
        self.world = World({"a": 0, "b": 1}, [[0, 9, 1], [7, 0, 3], [6, 8, 0]])

    def amount(self, number=(7, 2), start=0, goal=1, **more):
        return Amount(self.one, self.other, number, self.world, start, goal, **more)

    def test_plain(self):
        amount = self.amount()
        self.assertEqual((amount.one, amount.other, amount.world), (self.one, self.other, self.world))
        self.assertEqual((amount.number, amount.start, amount.goal, amount.layer), ((7, 2), 0, 1, "foot"))
        self.assertEqual((amount.told(), repr(amount)), ("amount 7/2", "Verdict(amount 7/2)"))
        self.assertEqual(amount.distances(), ((5, 1), (3, 2)))
        self.assertIs(amount.holds(), True)
        self.assertIs(bool(amount), False)
        named = Amount(one=self.one, other=self.other, number=(7, 2), world=self.world, start=0, goal=1, layer="foot")
        self.assertTrue(named.holds())

    def test_numbers(self):
        for start, goal, number, text in [(1, 0, (11, 2), "11/2"), (0, 2, ZERO, "0"), (0, 0, ZERO, "0"),
                                          (1, 2, (3, 2), "3/2"), (2, 0, (9, 2), "9/2")]:
            amount = self.amount(number, start, goal)
            self.assertEqual((amount.holds(), amount.told()), (True, f"amount {text}"))

    def test_a_number_below_zero(self):
        amount = Amount(self.other, self.one, (-7, 2), self.world, 0, 1)
        self.assertEqual((amount.holds(), amount.told()), (True, "amount -7/2"))
        self.assertFalse(Amount(self.other, self.one, (7, 2), self.world, 0, 1).holds())

    def test_changed_numbers(self):
        for number in [(7, 1), (5, 2), (-7, 2), ZERO, (8, 2), 3, 4, (14, 4), [7, 2], "7/2"]:
            self.assertIs(self.amount(number).holds(), False)
        for number in [*ODD_VALUES, 7, 0, [7, 2], "7/2", (14, 4), (7, -2)]:
            amount = self.amount(number)
            self.assertEqual((amount.holds(), amount.told(), repr(amount)), (False, "amount", "Verdict(amount)"))
            self.assertEqual(amount.number, number)
        # The number 0 is no ratio, also where the distances are equal.
        self.assertFalse(self.amount(0, 0, 0).holds())
        self.assertFalse(self.amount(False, 0, 0).holds())

    def test_booleans_are_no_numbers(self):
        one, other = read("cap foot 3"), read("cap foot 2")
        self.assertTrue(Amount(one, other, (1, 1), self.world, 0, 1).holds())
        for number in [(True, 1), (1, True), (True, True), True, 1]:
            amount = Amount(one, other, number, self.world, 0, 1)
            self.assertEqual((amount.holds(), amount.told()), (False, "amount"))

    def test_what_makes_no_distances(self):
        for value in [*ODD_VALUES, 3, -1, "a"]:
            self.assertFalse(self.amount(ZERO, value, 0).holds())
            self.assertFalse(self.amount(ZERO, 0, value).holds())
        for value in [*ODD_VALUES, "cart", 0]:
            self.assertFalse(self.amount(layer=value).holds())
            self.assertFalse(Amount(self.one, self.other, ZERO, value, 0, 0).holds())
        for world in [flat(["a"], 3), flat(ABC, 3), flat(AB, 3, cart=True)]:
            amount = Amount(self.one, self.other, ZERO, world, 0, 0)
            self.assertEqual((amount.distances(), amount.holds()), (None, False))
        for other in [read("forget a"), read("place c a 1 1"), read("", ["a"]), read("", layers=2)]:
            self.assertFalse(Amount(self.one, other, ZERO, self.world, 0, 0).holds())

    def test_scripts_with_tests(self):
        script = read("if foot a b 5 ( ) else ( scale foot 2 )")
        self.assertTrue(Amount(script, read(""), (9, 1), self.world, 0, 1).holds())

    def test_lists_are_copied(self):
        value = [[1]]
        amount = Amount(self.one, self.other, value, value, value, value, layer=value)
        value[0].append(2)
        amount.world[0].append(3)
        self.assertEqual((amount.number, amount.world, amount.start, amount.layer), ([[1]], [[1]], [[1]], [[1]]))


class Growings(unittest.TestCase):
    def setUp(self):
        self.one, self.other = read(""), read("cap foot 3")
        self.growth = flat(AB, 4, 2)

    def growing(self, growth=None, start="?1", goal="?2", layer="foot", one=None, other=None):
        return Growing(one or self.one, other or self.other, growth or self.growth, start, goal, layer=layer)

    def test_plain(self):
        growing = self.growing()
        self.assertEqual((growing.one, growing.other, growing.growth), (self.one, self.other, self.growth))
        self.assertEqual((growing.start, growing.goal, growing.layer), ("?1", "?2", "foot"))
        self.assertEqual((growing.told(), repr(growing)), ("growing", "Verdict(growing)"))
        self.assertEqual((growing.slopes(), growing.holds(), bool(growing)), (((2, 1), ZERO), True, False))
        self.assertEqual(Growing(self.other, self.one, self.growth, "?1", "?2").slopes(), (ZERO, (2, 1)))
        self.assertIs(Growing(self.other, self.one, self.growth, "?1", "?2").holds(), False)
        self.assertIs(Growing(self.one, self.one, self.growth, "?1", "?2").holds(), False)
        named = Growing(one=self.one, other=self.other, growth=self.growth, start="?1", goal="?2", layer="foot")
        self.assertTrue(named.holds())

    def test_slopes(self):
        # a, b, ?1, ?2
        growth = World({"a": 0, "b": 1}, [[0, 9, 8, 9], [9, 0, 9, 2], [3, 9, 0, 9], [9, 9, 9, 0]])
        for text, pair, slope in [
                ("", ("?1", "?2"), (9, 1)), ("scale foot 1/2", ("?1", "?2"), (9, 2)), ("turn", ("?1", "?2"), (9, 1)),
                ("road foot a b 70", ("?1", "?2"), (5, 1)), ("road foot a b 70 ; scale foot 1/3", ("?1", "?2"), (5, 3)),
                ("road foot b a 0", ("?1", "?2"), (9, 1)), ("round foot", ("?1", "?2"), (18, 1)),
                ("cap foot 99", ("?1", "?2"), ZERO), ("road foot a b 1 ; road foot b a 1", ("?1", "?2"), (5, 1))]:
            growing = self.growing(growth, *pair, one=read(text), other=read(""))
            self.assertEqual(growing.slopes(), (slope, (9, 1)), text)
            self.assertIs(growing.holds(), slope[0] > 9 * slope[1])

    def test_slopes_of_other_pairs(self):
        put = "place c a 4 5 ; road foot a b 1"
        growth = World({"a": 0, "b": 1}, [[0, 3], [7, 0]])
        for start, goal, slope in [("a", "b", ZERO), ("b", "a", (7, 1)), ("a", "+1", ZERO), ("+1", "a", ZERO),
                                   ("b", "+1", (7, 1)), ("+1", "b", ZERO)]:
            growing = self.growing(growth, start, goal, one=read(put), other=read("place c a 9 9"))
            self.assertEqual(growing.slopes()[0], slope, (start, goal))
        growth = World({"a": 0, "b": 1}, [[0, 3, 4], [7, 0, 4], [5, 6, 0]])
        for start, goal, slope in [("a", "?1", (4, 1)), ("?1", "b", (5, 1)), ("+1", "?1", (4, 1)), ("?1", "+1", (5, 1))]:
            self.assertEqual(self.growing(growth, start, goal, one=read(put), other=read(put)).slopes(), (slope, slope))

    def test_two_layers(self):
        growth = World({"a": 0, "b": 1}, [[0, 3], [7, 0]], cart=[[0, 1], [2, 0]])
        one, other = read("ride foot a b 9", layers=2), read("ride cart b a 9", layers=2)
        for layer, start, goal, slopes in [("foot", "a", "b", ((1, 1), (3, 1))), ("cart", "b", "a", ((2, 1), (2, 1))),
                                           ("foot", "b", "a", ((7, 1), (7, 1))), ("cart", "a", "b", ((1, 1), (1, 1)))]:
            growing = self.growing(growth, start, goal, layer, one, other)
            self.assertEqual(growing.slopes(), slopes)
            self.assertIs(growing.holds(), False)
        self.assertTrue(self.growing(growth, "a", "b", "foot", other, one).holds())
        growth = World({"a": 0, "b": 1}, [[0, 1], [1, 0]], cart=[[0, 3], [4, 0]])
        self.assertEqual(self.growing(growth, "b", "a", "cart", one, other).slopes(), ((4, 1), (1, 1)))

    def check_none(self, growing):
        self.assertIsNone(growing.slopes())
        self.assertIs(growing.holds(), False)

    def test_scripts_that_do_not_fit(self):
        for other in [read("forget a"), read("place c a 1 1"), read("place c a 1 1 ; forget c"), read("", ["a"]),
                      read("", layers=2), read("same b a"), read("", ABC)]:
            self.check_none(self.growing(other=other))
            self.check_none(self.growing(one=other))
        self.check_none(self.growing(one=read("", ["a", "b"]), other=read("forget c", ABC)))
        self.check_none(self.growing(one=read("forget c", ABC), other=read("", ["a", "b"])))

    def test_tests(self):
        with_test = read("if foot a a 0 ( cap foot 3 ) else ( cap foot 3 )")
        self.check_none(self.growing(other=with_test))
        self.check_none(self.growing(one=with_test))
        self.check_none(self.growing(other=read(WIDE)))

    def test_too_many(self):
        self.check_none(self.growing(other=read(SWOLLEN)))
        self.check_none(self.growing(one=read(SWOLLEN)))

    def test_pairs(self):
        values = [*ODD_VALUES, 0, 2, "c", "+1", "?3", "?2"]
        for growth in [flat(AB, 2, 1), flat(AB, 3, 1), flat(AB, 4, 1)]:
            for value in values:
                self.check_none(self.growing(growth, value, "a"))
                self.check_none(self.growing(growth, value, "?1"))
                self.check_none(self.growing(growth, "a", value))
                if value != "?2":
                    self.check_none(self.growing(growth, value, "?2"))
                    self.check_none(self.growing(growth, "?1", value))
            for start, goal in [("a", "a"), ("?1", "?1"), ("?2", "?2"), ("?2", "?1"), ("a", "?2"), ("?2", "b")]:
                self.check_none(self.growing(growth, start, goal))
        script = read("place c a 1 1")
        for start, goal in [("+1", "+1"), ("+2", "a"), ("+1", "?2"), ("c", "a")]:
            for size in (2, 3, 4):
                self.check_none(self.growing(flat(AB, size), start, goal, one=script, other=script))
        self.assertIsNotNone(self.growing(flat(AB, 2), "+1", "a", one=script, other=script).slopes())

    def test_layers(self):
        for value in [*ODD_VALUES, 0, "cart", "rail"]:
            growing = self.growing(layer=value)
            self.check_none(growing)
            self.assertEqual(growing.layer, value)

    def test_growths(self):
        table = flat(AB, 4).table()
        for value in [*ODD_VALUES, 0, self.one, flat(["a"], 4), flat(ABC, 4), flat(["a", "c"], 4), flat([], 4),
                      flat(AB, 3), flat(AB, 5), flat(AB, 2), flat(AB, 4, cart=True), World({"a": 1, "b": 0}, table),
                      World({"a": 2, "b": 3}, table), World({"a": 0, "b": 2}, table)]:
            growing = Growing(self.one, self.other, value, "?1", "?2")
            self.check_none(growing)
            self.assertEqual((growing.growth, growing.told()), (value, "growing"))
        for start, goal, size in [("a", "b", 2), ("a", "?1", 3), ("?1", "b", 3), ("?1", "?2", 4)]:
            for other in (2, 3, 4, 5):
                slopes = self.growing(flat(AB, other), start, goal).slopes()
                self.assertEqual(slopes, ((1, 1), ZERO) if other == size else None)
        self.check_none(Growing(read("", layers=2), read("", layers=2), flat(AB, 4), "?1", "?2"))

    def test_lists_are_copied(self):
        value = [[1]]
        growing = Growing(self.one, self.other, value, value, value, layer=value)
        value[0].append(2)
        growing.growth[0].append(3)
        self.assertEqual((growing.growth, growing.start, growing.goal, growing.layer), ([[1]], [[1]], [[1]], [[1]]))


class Most(unittest.TestCase):
    def check_holds(self, found, one, other):
        self.assertIs(found.holds(), True)
        self.assertEqual((found.one, found.other), (one, other))
        if isinstance(found, Amount):
            behind = [run(script, found.world).far(found.start, found.goal, layer=found.layer)
                      for script in (one, other)]
            self.assertEqual(added(behind[1], found.number), behind[0])
            self.assertGreaterEqual(found.number[0], 0)
            return
        self.assertEqual(found.__class__, Growing)
        self.check_growing(found, one, other)

    def check_growing(self, found, one, other):
        """What is added many times makes the distance behind the first script greater without end."""
        growth, names = found.growth, one.names()
        strangers = [point for point in ("?1", "?2") if point in (found.start, found.goal)]
        points = [*names, *strangers, *[f"+{k + 1}" for k in range(one.puts)]]
        self.assertEqual((growth.names(), growth.size), (names, len(names) + len(strangers)))
        far = [added(*[multiplied(run(script, growth.grown(growth, by=by)).far(
            points.index(found.start), points.index(found.goal), layer=found.layer), sign)
            for script, sign in [(one, 1), (other, -1)]]) for by in (10 ** 6, 10 ** 7)]
        self.assertTrue(is_less(multiplied(far[0], 9), far[1]) and far[0][0] > 0)

    def test_document(self):
        cap = read("cap foot 3", [])
        self.assertEqual(most_over(read("cap foot 5", []), cap).told(), "amount 2")
        self.assertEqual(most_saved(cap).told(), "growing")

    def test_told(self):
        for text, other_text, layers, told in [
                ("", "", 1, "amount 0"), ("", "turn ; turn", 2, "amount 0"), ("cap foot 3", "cap foot 5", 1, "amount 0"),
                ("cap foot 5", "cap foot 3", 1, "amount 2"), ("cap foot 1/2", "cap foot 1/3", 1, "amount 1/6"),
                ("", "road foot a b 2", 1, "growing"), ("road foot a b 2", "", 1, "amount 0"),
                ("road foot a b 5", "road foot a b 2", 1, "amount 3"),
                ("road foot a b 5 ; round foot", "road foot a b 2 ; round foot", 1, "amount 6"),
                ("road foot a b 5 ; scale foot 1/2", "scale foot 1/2 ; road foot a b 1", 1, "amount 3/2"),
                ("cap foot 9", "road foot a b 2 ; cap foot 9", 1, "amount 7"),
                ("cap foot 9", "turn ; cap foot 9", 1, "amount 9"), ("turn", "", 1, "growing"),
                ("round foot", "", 1, "growing"), ("", "round foot", 1, "amount 0"),
                ("scale foot 2", "scale foot 2001/1000", 1, "amount 0"), ("scale foot 2001/1000", "scale foot 2", 1,
                                                                          "growing"),
                ("cap cart 9", "cap cart 4", 2, "amount 5"), ("", "cap cart 4", 2, "growing"),
                ("cap foot 3 ; cap cart 7", "cap foot 2 ; cap cart 3", 2, "amount 4"),
                ("cap foot 7 ; cap cart 3", "cap foot 2 ; cap cart 3", 2, "amount 5"),
                ("ride foot a b 5", "ride foot a b 2", 2, "amount 3"), ("", "ride cart a b 2", 2, "growing"),
                ("place c a 3 1", "place c a 1 1", 1, "amount 2"), ("place c a 3 1", "place c a 1 9", 1, "amount 2"),
                ("place c a 1 1", "place c b 1 1", 1, "growing"),
                ("same b a ; place a b 2 1", "same b a ; place a b 1/2 3", 1, "amount 3/2")]:
            one, other = read(text, layers=layers), read(other_text, layers=layers)
            found = most_over(one, other)
            self.assertEqual(found.told(), told, (text, other_text))
            self.check_holds(found, one, other)

    def test_saved(self):
        for text, layers, told in [("", 1, "amount 0"), ("cap foot 3", 1, "growing"), ("round foot", 2, "amount 0"),
                                   ("road foot a b 1", 1, "growing"), ("scale foot 3", 1, "amount 0"),
                                   ("road foot a a 1", 1, "amount 0"), ("turn", 1, "growing"),
                                   ("scale cart 3 ; ride cart a b 1 ; scale cart 1/3", 2, "growing")]:
            script = read(text, layers=layers)
            found = most_saved(script=script)
            self.assertEqual(found.told(), told, text)
            self.check_holds(found, read("", layers=layers), script)
        self.assertEqual(most_saved(read("cap foot 2", [])).told(), "growing")

    def test_a_place_and_itself(self):
        # There is one place at least, and its distance to itself stays 0.
        for names in ([], ["a"], ABC):
            found = most_over(read("cap foot 0", names), read("", names))
            self.assertEqual((found.told(), found.number, found.holds()), ("amount 0", ZERO, True))
            self.assertEqual(found.distances()[0], found.distances()[1])

    def test_number_by_the_forms(self):
        self.assertEqual(most_over(read("road foot a b 5"), read("road foot a b 2")).number, (3, 1))
        found = most_over(one=read("road foot a b 2 ; road foot a b 7"), other=read("road foot a b 1/3"))
        self.assertEqual((found.number, found.told()), ((5, 3), "amount 5/3"))

    def test_equal_calls(self):
        for one, other in [("cap foot 5", "cap foot 3"), ("", "turn"), ("road foot a b 5", "road foot a b 2")]:
            found, same = most_over(read(one), read(other)), most_over(read(one), read(other))
            self.assertEqual((found.told(), found.start, found.goal), (same.told(), same.start, same.goal))
            if isinstance(found, Amount):
                self.assertEqual(found.world, same.world)
            else:
                self.assertEqual((found.growth, found.slopes()), (same.growth, same.slopes()))


class Errors(unittest.TestCase):
    def test_in_their_order(self):
        tested = "if foot a b 1 ( ) else ( )"
        for one in [read(""), read(tested), read(SWOLLEN), read(f"{SWOLLEN} ; {tested}"), read(WIDE)]:
            for other in [read("", ["a"]), read("", layers=2), read("forget a"), read("place d a 1 1"),
                          read("place d a 1 1 ; forget d"), read(f"{tested} ; same a b")]:
                raised(self, UnlikeScripts, most_over, one, other)
                raised(self, UnlikeScripts, most_over, other, one)
        for one, other in [(read("forget b"), read("", ["a"])), (read("", ["a"]), read("forget b"))]:
            raised(self, UnlikeScripts, most_over, one, other)
        for one in [read(tested), read(WIDE), read(f"{SWOLLEN} ; {tested}")]:
            for other in [read(""), read(tested), read(SWOLLEN)]:
                raised(self, HasTests, most_over, one, other)
                raised(self, HasTests, most_over, other, one)
        for one, other in [("", SWOLLEN), (SWOLLEN, ""), (SWOLLEN, SWOLLEN)]:
            error = raised(self, TooMany, most_over, read(one), read(other))
            self.assertEqual((error.subject, error.most), ("forms", 200))

    def test_saved(self):
        for text in ["forget a", "place c a 1 1", "if foot a b 1 ( forget a ) else ( forget a )", SWOLLEN + " ; same a b"]:
            raised(self, UnlikeScripts, most_saved, read(text))
        for text in ["if foot a b 1 ( ) else ( )", WIDE, SWOLLEN + " ; if foot a b 1 ( ) else ( )"]:
            raised(self, HasTests, most_saved, read(text))
        raised(self, TooMany, most_saved, read(SWOLLEN))


class Drawn(unittest.TestCase):
    """Pairs that are drawn: an Amount is the greatest one by means, and in worlds that are drawn."""

    def test_drawn(self):
        source = random.Random(5)
        told = {"amount": 0, "growing": 0, "above 0": 0}
        for _ in range(500):
            names, layers = ABC[:source.randint(0, 3)], source.choice([1, 1, 2])
            one, other = draw_script(source, names, layers, 4), draw_script(source, names, layers, 4)
            try:
                found = most_over(one, other)
            except (UnlikeScripts, HasTests, TooMany):
                continue
            told[found.KIND] += 1
            Most.check_holds(self, found, one, other)
            if isinstance(found, Amount):
                told["above 0"] += found.number[0] > 0
                self.check_greatest(found, one, other)
                self.check_worlds(source, found, one, other)
        self.assertTrue(min(told.values()) > 15, told)

    check_growing = Most.check_growing

    def check_greatest(self, found, one, other):
        """By means: no form of the second script, plus the number, is below all of the first one."""
        first, second = cases(one)[0], cases(other)[0]
        for start, goal in looked_at(first.points()):
            strangers = [point for point in ("?1", "?2") if point in (start, goal)]
            ground = Ground(one.names(), strangers, one.layers)
            rows = triangles([*one.names(), *strangers], one.layers)
            for layer in ["foot", "cart"][:one.layers]:
                forms = first.forms(start, goal, layer=layer)
                for form in second.forms(start, goal, layer=layer):
                    mean = ground.mean_or_world(form + Form(found.number), forms, rows)
                    self.assertIsInstance(mean, Mean)
                    self.assertTrue(mean.shows(form, forms, rows, shift=found.number))

    def check_worlds(self, source, found, one, other):
        for _ in range(3):
            world = draw_world(source, one.names(), one.layers)
            world = world.grown(world, by=draw_ratio(source))
            behind, other_behind = run(one, world), run(other, world)
            for layer in ["foot", "cart"][:one.layers]:
                for row, other_row in zip(behind.table(layer), other_behind.table(layer)):
                    for distance, other_distance in zip(row, other_row):
                        self.assertFalse(is_less(added(other_distance, found.number), distance))


if __name__ == "__main__":
    unittest.main()
