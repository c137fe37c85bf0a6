"""Promises [15] and [16], of [17] Parted and Exceeds, and the entry of missingmiles/verdicts.py."""

import unittest

from missingmiles.comparing import compare
from missingmiles.forms import Form
from missingmiles.means import Mean
from missingmiles.scripts import Script
from missingmiles.verdicts import Alike, Exceeds, Parted, Verdict
from missingmiles.worlds import World
from tests.helpers import ODD_VALUES

ZERO, ONE = (0, 1), (1, 1)
AB = ["a", "b"]
ABC = ["a", "b", "c"]
CAPPED = ("most", (("foot", "a", "b", 1),), 2)


def read(text, names=("a", "b"), layers=1):
    return Script.read(names, text, layers=layers)


class Base(unittest.TestCase):
    def test_plain(self):
        one, other = read("turn"), read("")
        verdict = Verdict(one, other)
        self.assertEqual((verdict.one, verdict.other, verdict.KIND, verdict.told()), (one, other, "open", "open"))
        self.assertIs(verdict.holds(), False)
        self.assertIs(bool(verdict), False)
        self.assertEqual(repr(verdict), "Verdict(open)")

    def test_classes(self):
        self.assertEqual((Verdict.__bases__, Alike.__bases__, Parted.__bases__, Exceeds.__bases__),
                         ((object,), (Verdict,), (Verdict,), (Parted,)))
        self.assertEqual([kind.KIND for kind in (Verdict, Alike, Parted, Exceeds)],
                         ["open", "alike", "parted", "exceeds"])


class AnyRows(unittest.TestCase):
    def test_lists(self):
        one = read("turn")
        pair = (("void", 0, 0), Mean([], []))
        for rows, told in [([], 0), ((), 0), ([pair], 1), ((pair, None, [1]), 3), (None, 0), ("ab", 0), (7, 0),
                           (True, 0)]:
            verdict = Alike(one, one, rows, facts=rows)
            expected = list(rows) if isinstance(rows, tuple) else rows
            self.assertEqual((verdict.rows(), verdict.facts(), verdict.told()), (expected, expected, f"alike {told}"))
            self.assertEqual(repr(verdict), f"Verdict(alike {told})")
            self.assertIs(bool(verdict), True)
            self.assertIs(verdict.holds(), False)
        self.assertEqual((Alike(one, one, []).facts(), Alike(one, one, []).one), ([], one))

    def test_lists_are_copied(self):
        rows, facts = [("a", [1])], [[2]]
        verdict = Alike(read(""), read(""), rows, facts=facts)
        rows.append(0)
        rows[0][1].append(0)
        facts[0].append(0)
        verdict.rows()[0][1].append(0)
        verdict.rows().clear()
        verdict.facts()[0].append(0)
        self.assertEqual((verdict.rows(), verdict.facts()), ([("a", [1])], [[2]]))


class Alikes(unittest.TestCase):
    """An Alike of compare, and what becomes of it when something is changed."""

    def setUp(self):
        self.one = read("road foot a b 2 ; place c a 1 1 ; road foot b a 3")
        self.other = read("road foot b a 3 ; road foot a b 2 ; place c a 1 1")
        self.verdict = compare(self.one, self.other)

    def holds(self, rows, facts=()):
        return Alike(self.one, self.other, rows, facts=facts).holds()

    def test_plain(self):
        self.assertIsInstance(self.verdict, Alike)
        rows = self.verdict.rows()
        self.assertIs(self.verdict.holds(), True)
        self.assertEqual(self.verdict.told(), f"alike {len(rows)}")
        self.assertTrue(self.holds(tuple(rows)))
        self.assertTrue(self.holds(rows[::-1]))

    def test_looked_at_pairs(self):
        points = ["a", "b", "+1"]
        pairs = {(x, y) for x in points for y in points if x != y}
        pairs |= {pair for x in points for pair in [(x, "?1"), ("?1", x)]} | {("?1", "?2")}
        keys = [key for key, _ in self.verdict.rows()]
        self.assertEqual({key[4:6] for key in keys}, pairs)
        self.assertEqual({key[:4] for key in keys}, {("one", 0, 0, "foot"), ("other", 0, 0, "foot")})

    def test_each_row_is_needed(self):
        rows = self.verdict.rows()
        for at in range(len(rows)):
            self.assertFalse(self.holds(rows[:at] + rows[at + 1:]))

    def test_the_first_row_of_a_key_counts(self):
        rows = self.verdict.rows()
        for at, (key, mean) in enumerate(rows):
            wrong = (key, Mean([ZERO] * len(mean.weights()), mean.sums()))
            self.assertTrue(self.holds([*rows, wrong]))
            self.assertFalse(self.holds([wrong, *rows]))
            self.assertTrue(self.holds([*rows[:at + 1], wrong, *rows[at:]]))

    def test_other_rows_mean_nothing(self):
        rows, mean = self.verdict.rows(), Mean(None, 5)
        for key in [(), ("one",), ("void", 1, 0), ("void", 0), ("void", 0, 0, 0), ("one", 0, 0, "foot", "a", "b", 7),
                    ("two", 0, 0, "foot", "a", "b", 0), ("one", 0, 0, "foot", "?2", "?1", 0), (-1, "x" * 100),
                    ("one", 0, 1, "foot", "a", "b", 0), (10 ** 40,)]:
            self.assertTrue(self.holds([(key, mean), *rows]))
        # A mean that does not show that there is no world leaves the other rows to count.
        self.assertTrue(self.holds([(("void", 0, 0), mean), *rows]))

    def test_rows_of_another_kind(self):
        rows = self.verdict.rows()
        key, mean = rows[0]
        wrong = [*ODD_VALUES, 0, (key,), (key, mean, mean), [key, mean], (list(key), mean), (key, None), (key, [mean]),
                 ("void", mean), (None, mean), ((None,), mean), ((True, 0), mean), (("void", True, 0), mean),
                 (((1,),), mean), (([],), mean), (("one", 0, 0, None), mean), (mean, key), (key, key)]
        for value in wrong:
            self.assertFalse(self.holds([*rows, value]))
            self.assertFalse(self.holds([value, *rows]))
        for value in [*ODD_VALUES, 0, {}]:
            self.assertFalse(self.holds(value))

    def test_changed_means(self):
        rows = self.verdict.rows()
        for at, (key, mean) in enumerate(rows):
            weights, sums = mean.weights(), mean.sums()
            for wrong in [Mean(weights[1:], sums), Mean([*weights, ZERO], sums), Mean(weights, [*sums, ZERO]),
                          Mean(weights, None), Mean(None, sums),
                          Mean([(2, 1) if w == ONE else w for w in weights], sums),
                          Mean([1 if w == ONE else w for w in weights], sums),
                          Mean([ONE for _ in weights] + [ONE], sums)]:
                self.assertFalse(self.holds([*rows[:at], (key, wrong), *rows[at + 1:]]))

    def test_exchanged_rows(self):
        rows = self.verdict.rows()
        by_key = dict(rows)
        one = ("one", 0, 0, "foot", "a", "b", 0)
        other = ("one", 0, 0, "foot", "a", "b", 1)
        by_key[one], by_key[other] = by_key[other], by_key[one]
        self.assertFalse(self.holds(list(by_key.items())))

    def test_keys_by_their_numbers(self):
        rows = self.verdict.rows()
        for wrong in [lambda key: (key[0], 1, *key[2:]), lambda key: (key[0], key[1], "0", *key[3:]),
                      lambda key: (*key[:3], "cart", *key[4:]), lambda key: (*key[:6], str(key[6])),
                      lambda key: (key[0].upper(), *key[1:]), lambda key: key[:6]]:
            self.assertFalse(self.holds([(wrong(key), mean) for key, mean in rows]))

    def test_scripts(self):
        rows = self.verdict.rows()
        self.assertFalse(Alike(self.one, read("turn ; place c a 1 1"), rows).holds())
        for other in [read("road foot b a 3 ; road foot a b 2"), read(self.other.text(), layers=2),
                      read(self.other.text() + " ; forget a"), read(self.other.text(), ["a", "b", "d"]),
                      read("place c a 1 1 ; place d a 1 1 ; forget d")]:
            self.assertFalse(Alike(self.one, other, rows).holds())
            self.assertFalse(Alike(other, self.one, rows).holds())

    def test_facts(self):
        rows = self.verdict.rows()
        self.assertFalse(self.holds(rows, [CAPPED]))
        with_fact = compare(self.one, self.other, facts=[CAPPED])
        self.assertEqual((with_fact.facts(), with_fact.holds()), ([CAPPED], True))
        self.assertTrue(self.holds(with_fact.rows(), (CAPPED,)))
        for facts in [(), [CAPPED, CAPPED], [None], None, 7, "a", [list(CAPPED)], CAPPED,
                      [("most", (("foot", "a", "c", 1),), 2)], [("most", (("cart", "a", "b", 1),), 2)]]:
            self.assertFalse(self.holds(with_fact.rows(), facts))

    def test_too_many_cases(self):
        text = "road foot a c 1 ; road foot c b 1 ; repeat 3 ( if foot a b 9 ( ) else ( ) )"
        script = read(text, ABC)
        self.assertFalse(Alike(script, script, []).holds())
        self.assertFalse(Alike(read("", ABC), script, []).holds())


class Voids(unittest.TestCase):
    """Cases that no world goes both ways."""

    def setUp(self):
        self.script = read("if foot a b 1 ( turn ) else ( cap foot 5 )")
        self.rows = compare(self.script, self.script).rows()

    def test_plain(self):
        voids = [key for key, _ in self.rows if key[0] == "void"]
        self.assertEqual(voids, [("void", 0, 1), ("void", 1, 0)])
        self.assertTrue(Alike(self.script, self.script, self.rows).holds())
        self.assertEqual({key[1:3] for key, _ in self.rows if key[0] != "void"}, {(0, 0), (1, 1)})

    def test_each_row_is_needed(self):
        for at in range(len(self.rows)):
            self.assertFalse(Alike(self.script, self.script, self.rows[:at] + self.rows[at + 1:]).holds())

    def test_changed_voids(self):
        for at, (key, mean) in enumerate(self.rows):
            if key[0] == "void":
                for wrong in [Mean([], [ZERO] * len(mean.sums())), Mean([ONE], mean.sums()), Mean([], mean.sums()[1:]),
                              Mean([], mean.sums()[::-1][:-1]), Mean(None, mean.sums())]:
                    rows = [*self.rows[:at], (key, wrong), *self.rows[at + 1:]]
                    self.assertFalse(Alike(self.script, self.script, rows).holds())

    def test_rows_may_stand_in_the_place_of_a_void(self):
        # No world goes both ways, so each question has a mean without weights, too.
        rows = [row for row in self.rows if row[0] != ("void", 0, 1)]
        self.assertFalse(Alike(self.script, self.script, rows).holds())
        low, high = Form(0, [(("foot", "a", "b"), 1)]), Form(1)
        strict = [(low, high, False), (high, low, True)]
        self.assertTrue(Mean([], [ONE, ONE]).shows(Form(), [], strict))
        points = ["a", "b"]
        pairs = [("a", "b"), ("b", "a"), ("?1", "?2")]
        pairs += [pair for x in points for pair in [(x, "?1"), ("?1", x)]]
        for start, goal in pairs:
            many = {0: 0, 1: 6, 2: 24}[("?1" in (start, goal)) + ("?2" in (start, goal))]
            sums = [*[ZERO] * many, ONE, ONE]
            rows.append((("one", 0, 1, "foot", start, goal, 0), Mean([ZERO, ZERO], sums)))
            for index in range(2):
                rows.append((("other", 0, 1, "foot", start, goal, index), Mean([ZERO], sums)))
        self.assertTrue(Alike(self.script, self.script, rows).holds())


class Parts(unittest.TestCase):
    def setUp(self):
        self.one, self.other = read("road foot a b 2"), read("cap foot 5")
        self.world = World({"a": 0, "b": 1}, [[0, 9, 1], [7, 0, 3], [6, 8, 0]])

    def verdicts(self, *args, **more):
        return [kind(self.one, self.other, *args, **more) for kind in (Parted, Exceeds)]

    def test_plain(self):
        parted, exceeds = self.verdicts(self.world, 0, 1)
        for verdict, kind in [(parted, "parted"), (exceeds, "exceeds")]:
            self.assertEqual((verdict.one, verdict.other, verdict.world), (self.one, self.other, self.world))
            self.assertEqual((verdict.start, verdict.goal, verdict.layer), (0, 1, "foot"))
            self.assertEqual((verdict.KIND, verdict.told(), repr(verdict)), (kind, kind, f"Verdict({kind})"))
            self.assertEqual(verdict.distances(), ((2, 1), (5, 1)))
            self.assertIs(bool(verdict), False)
        self.assertEqual((parted.holds(), exceeds.holds()), (True, False))

    def test_places(self):
        for start, goal, distances in [(1, 0, ((7, 1), (5, 1))), (0, 2, ((1, 1), (1, 1))), (0, 0, ((0, 1), (0, 1)))]:
            parted, exceeds = self.verdicts(self.world, start, goal=goal, layer="foot")
            self.assertEqual(parted.distances(), distances)
            self.assertIs(parted.holds(), distances[0] != distances[1])
            self.assertIs(exceeds.holds(), distances[0] > distances[1])

    def test_places_that_are_none(self):
        for value in [*ODD_VALUES, 3, -1, "a", (0, 1)]:
            for verdict in [*self.verdicts(self.world, value, 1), *self.verdicts(self.world, 0, value)]:
                self.assertIsNone(verdict.distances())
                self.assertIs(verdict.holds(), False)

    def test_layers(self):
        for value in [*ODD_VALUES, 0, "cart", "rail"]:
            for verdict in self.verdicts(self.world, 0, 1, layer=value):
                self.assertEqual((verdict.distances(), verdict.holds(), verdict.layer), (None, False, value))
        one, other = read("scale cart 2", layers=2), read("", layers=2)
        world = World({"a": 0, "b": 1}, [[0, 1], [1, 0]], cart=[[0, 1], [1, 0]])
        self.assertEqual(Parted(one, other, world, 0, 1, layer="cart").distances(), ((2, 1), (1, 1)))
        self.assertTrue(Exceeds(one, other, world, 0, 1, layer="cart").holds())
        self.assertFalse(Exceeds(one, other, world, 0, 1).holds())
        self.assertFalse(Exceeds(other, one, world, 0, 1, layer="cart").holds())

    def test_worlds(self):
        for value in [*ODD_VALUES, 0, World({"a": 0}, [[0, 9], [7, 0]]), World({"a": 0, "c": 1}, [[0, 9], [7, 0]]),
                      World({}, [[0, 9], [7, 0]]), World({"a": 0, "b": 1}, [[0, 9], [7, 0]], cart=[[0, 9], [7, 0]]),
                      World({"a": 0, "b": 1, "c": 2}, [[0, 9, 9], [9, 0, 9], [9, 9, 0]])]:
            for verdict in self.verdicts(value, 0, 1):
                self.assertEqual((verdict.distances(), verdict.holds(), verdict.world), (None, False, value))
        for verdict in self.verdicts(World({"b": 0, "a": 1}, [[0, 9], [7, 0]]), 1, 0):
            self.assertEqual(verdict.distances(), ((2, 1), (5, 1)))

    def test_scripts_that_do_not_fit(self):
        for other in [read("forget a"), read("place c a 1 1"), read("place c a 1 1 ; forget c"), read("", ["a"]),
                      read("", layers=2), read("same b a")]:
            for verdict in [Parted(self.one, other, self.world, 0, 1), Parted(other, self.one, self.world, 0, 1),
                            Exceeds(other, self.one, self.world, 0, 1)]:
                self.assertEqual((verdict.distances(), verdict.holds()), (None, False))

    def test_places_behind_the_scripts(self):
        one, other = read("place c a 1 1", ["a"]), read("place d a 3 1 ; forget a ; place a d 0 0", ["a"])
        self.assertIsNone(Parted(one, other, World({"a": 0}, [[0]]), 0, 1).distances())
        other = read("forget a ; turn", ["a"])
        self.assertIsNone(Parted(one, other, World({"a": 0}, [[0]]), 0, 1).distances())
        other = read("place c a 3 1", ["a"])
        parted = Parted(one, other, World({"a": 0}, [[0]]), 0, 1)
        self.assertEqual((parted.distances(), parted.holds()), (((1, 1), (3, 1)), True))
        self.assertIsNone(Parted(one, other, World({"a": 0}, [[0]]), 0, 2).distances())

    def test_too_many_places(self):
        flat = [[0 if x == y else 1 for y in range(9)] for x in range(9)]
        script, world = read("place b a 1 1", ["a"]), World({"a": 0}, flat)
        self.assertIsNone(Parted(script, script, world, 0, 1).distances())
        self.assertEqual(Parted(script, script, world.part(*range(8)), 0, 8).distances(), ((1, 1), (1, 1)))

    def test_lists_are_copied(self):
        value = [[1]]
        verdict = Parted(self.one, self.other, value, value, value, layer=value)
        value[0].append(2)
        verdict.world[0].append(3)
        self.assertEqual((verdict.world, verdict.start, verdict.goal, verdict.layer), ([[1]], [[1]], [[1]], [[1]]))


if __name__ == "__main__":
    unittest.main()
