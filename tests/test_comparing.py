"""Promises [13], [15] and [16] as they are answered, and the entry of missingmiles/comparing.py."""

import random
import unittest

from missingmiles.comparing import are_alike, compare, never_longer
from missingmiles.errors import InvalidFact, MilesError, Missing, TooMany, UnlikeScripts
from missingmiles.facts import keeps
from missingmiles.ratios import is_less
from missingmiles.scripts import Script, run
from missingmiles.verdicts import Alike, Exceeds, Parted
from tests.drawing import draw_facts, draw_ratio, draw_script, draw_world
from tests.helpers import raised
from tests.test_facts import far, least, most, wrong_facts

AB = ["a", "b"]
ABC = ["a", "b", "c"]

# Pairs of texts of scripts with the names a, b and c on so many layers that leave the same.
ALIKE = [
    ("", "repeat 3 ( )", 1), ("turn ; turn", "", 2), ("scale foot 2 ; scale foot 3", "scale foot 6", 1),
    ("road foot a b 2", "road foot a b 2 ; road foot a b 3", 1), ("cap foot 4 ; cap foot 3", "cap foot 3", 2),
    ("road foot a b 1 ; road foot b c 1", "road foot b c 1 ; road foot a b 1 ; road foot a c 2", 1),
    ("road foot a b 2 ; turn", "turn ; road foot b a 2", 1), ("road foot a a 1", "", 1),
    ("same a b", "road foot a b 0 ; road foot b a 0 ; forget b", 1),
    ("forget a ; forget b", "forget b ; forget a", 1),
    ("place d a 1 1 ; same a d", "road foot a a 1 ; place d a 0 0 ; forget d", 1),
    ("round foot ; round foot", "round foot ; scale foot 2", 2),
    ("scale foot 1/2 ; cap foot 1", "cap foot 2 ; scale foot 1/2", 1),
    ("ride foot a b 0 ; ride foot a b 1", "ride foot a b 0", 2), ("round foot", "turn ; round foot", 1),
    ("place d a 1 2 ; forget d", "place e a 1 2 ; forget e", 1),
    ("place d a 1 2 ; turn ; forget d", "turn ; place d a 2 1 ; forget d", 1),
    # With tests.
    ("if foot a b 2 ( ) else ( road foot a b 2 )", "road foot a b 2", 1),
    ("if foot a b 2 ( turn ) else ( turn )", "turn", 1),
    ("if foot a a 0 ( cap foot 1 ) else ( turn )", "cap foot 1", 1),
    ("if foot a b 1 ( if foot a b 2 ( ) else ( turn ) ) else ( )", "", 1),
    ("if foot a b 1 ( ) else ( if foot a b 3 ( cap foot 3 ) else ( ) ) ; cap foot 3", "cap foot 3", 1),
    ("repeat 2 ( if foot a b 1 ( ) else ( road foot a b 1 ) )", "road foot a b 1", 1),
    ("road foot a c 4 ; road foot c b 1 ; if foot a b 5 ( ) else ( turn )", "road foot a c 4 ; road foot c b 1", 1),
    ("if cart a b 1 ( ride foot a b 0 ) else ( ride foot a b 0 )", "ride foot a b 0", 2),
]

# Pairs that part.
PARTED = [
    ("", "turn", 1), ("scale foot 2", "scale foot 3", 1), ("road foot a b 2", "road foot a b 3", 1),
    ("road foot a b 1 ; cap foot 1/2", "road foot a b 1", 1),
    ("road foot a b 1 ; road foot b c 1", "road foot b c 1 ; road foot a b 1 ; road foot a c 1", 1),
    ("scale cart 2", "", 2), ("ride foot a b 1", "ride cart a b 1", 2), ("turn", "round foot", 2),
    ("if foot a b 2 ( turn ) else ( )", "", 1),
    ("if foot a b 2 ( ) else ( road foot a b 2 )", "road foot a b 3", 1),
    ("if foot a b 1 ( cap foot 1 ) else ( )", "if foot a b 1 ( cap foot 1 ) else ( cap foot 99 )", 1),
    ("place d a 1 2 ; forget d", "place d a 1 1 ; forget d", 1),
    ("place d a 1 2 ; forget d", "place d b 1 2 ; forget d", 1),
    ("place d a 1 2 ; place e b 1 1", "place d b 1 1 ; place e a 1 2", 1),
    ("cap foot 9 ; round foot", "round foot ; cap foot 9", 1),
]


def read(text, layers=1, names=("a", "b", "c")):
    return Script.read(names, text, layers=layers)


class Told(unittest.TestCase):
    def test_document(self):
        one = read("scale foot 2 ; scale foot 3", names=[])
        self.assertIs(are_alike(one, read("scale foot 6", names=[])), True)
        self.assertEqual(compare(one, read("turn", names=[])).told(), "parted")

    def test_alike(self):
        for text, other_text, layers in ALIKE:
            one, other = read(text, layers), read(other_text, layers)
            for first, second in [(one, other), (other, one)]:
                verdict = compare(first, second)
                self.assertIsInstance(verdict, Alike, (text, other_text))
                self.assertTrue(verdict.holds(), (text, other_text))
                self.assertEqual((verdict.one, verdict.other, verdict.facts()), (first, second, []))
                self.assertIs(are_alike(first, second), True)
                self.assertIsNone(never_longer(first, second))

    def test_parted(self):
        for text, other_text, layers in PARTED:
            one, other = read(text, layers), read(other_text, layers)
            for first, second in [(one, other), (other, one)]:
                self.check_parted(first, second)
            self.assertFalse(never_longer(one, other) is None and never_longer(other, one) is None)

    def check_parted(self, one, other, facts=()):
        verdict = compare(one, other, facts=facts)
        self.assertEqual(verdict.__class__, Parted, (one.text(), other.text()))
        self.assertTrue(verdict.holds())
        self.check_world(verdict, one, other, facts)
        self.assertIs(are_alike(one, other, facts=facts), False)

    def check_world(self, verdict, one, other, facts):
        self.assertEqual((verdict.one, verdict.other), (one, other))
        world = verdict.world
        self.assertEqual([world.place(name) for name in one.names()], list(range(len(one.names()))))
        self.assertLessEqual(world.size, len(one.names()) + 2)
        self.assertTrue(keeps(world, facts))
        behind = [run(script, world).far(verdict.start, verdict.goal, layer=verdict.layer) for script in (one, other)]
        self.assertEqual(verdict.distances(), tuple(behind))
        self.assertNotEqual(behind[0], behind[1])
        return behind

    def test_only_at_strangers(self):
        one, other = read("cap foot 2 ; road foot a b 2"), read("road foot a b 2 ; cap foot 2 ; road foot b a 2")
        self.check_parted(read("", names=[]), read("turn", names=[]))
        self.assertTrue(are_alike(one, other))
        # Names are made to be one place; only strangers can tell the scale.
        one, other = read("same a b ; scale foot 2", names=AB), read("same a b", names=AB)
        self.check_parted(one, other)
        verdict = compare(read("cap foot 3", names=["a"]), read("cap foot 4", names=["a"]))
        self.assertEqual((verdict.world.size > 1, verdict.holds()), (True, True))

    def test_only_at_a_place_that_is_put_in(self):
        one, other = read("place d a 1 5 ; forget d", names=["a"]), read("place d a 1 6 ; forget d", names=["a"])
        self.check_parted(one, other)
        verdict = compare(one, other)
        self.assertEqual(verdict.start, verdict.world.size)
        self.assertIsNone(never_longer(one, other))
        exceeds = never_longer(other, one)
        self.assertEqual((exceeds.start, exceeds.holds()), (exceeds.world.size, True))

    def test_never_longer(self):
        for text, other_text, layers, longer in [("road foot a b 2", "", 1, False), ("", "road foot a b 2", 1, True),
                                                 ("scale foot 1/2", "", 1, False), ("", "scale foot 2", 2, False),
                                                 ("round foot", "turn", 1, True), ("turn", "round foot", 1, False),
                                                 ("turn", "", 1, True), ("cap cart 3", "cap cart 4", 2, False),
                                                 ("if foot a b 1 ( ) else ( turn )", "", 1, True),
                                                 ("if foot a b 1 ( ) else ( cap foot 7 )", "", 1, False),
                                                 ("if foot a b 1 ( scale foot 2 ) else ( )", "round foot", 1, True)]:
            one, other = read(text, layers), read(other_text, layers)
            exceeds = never_longer(one, other)
            if not longer:
                self.assertIsNone(exceeds)
                continue
            self.assertEqual((exceeds.__class__, exceeds.holds()), (Exceeds, True))
            behind = self.check_world(exceeds, one, other, [])
            self.assertTrue(is_less(behind[1], behind[0]))

    def test_equal_calls(self):
        for text, other_text, layers in [ALIKE[5], ALIKE[20], PARTED[4], PARTED[8]]:
            one, other = read(text, layers), read(other_text, layers)
            verdict, same = compare(one, other), compare(one, other)
            self.assertEqual(verdict.told(), same.told())
            if isinstance(verdict, Alike):
                self.assertEqual(verdict.rows(), same.rows())
            else:
                self.assertEqual((verdict.world, verdict.start, verdict.goal), (same.world, same.start, same.goal))


class WithFacts(unittest.TestCase):
    def test_alike_under_facts_only(self):
        for text, other_text, facts in [
                ("road foot a b 3", "", [most(3, far("a", "b"))]),
                ("road foot a b 3", "", [most((5, 2), far("a", "b"))]),
                ("if foot a b 1 ( turn ) else ( cap foot 2 )", "cap foot 2", [least((11, 10), far("a", "b"))]),
                ("if foot a b 1 ( turn ) else ( cap foot 2 )", "turn", [most(1, far("a", "b"))]),
                ("road foot a b 1 ; road foot b c 1", "road foot b c 1 ; road foot a b 1",
                 [most(2, far("a", "c"))]), ("road foot a c 5", "", [most(2, far("a", "b")), most(3, far("b", "c"))]),
                ("turn", "scale foot 9", [most(-1)])]:
            one, other = read(text), read(other_text)
            verdict = compare(one, other, facts=facts)
            self.assertIsInstance(verdict, Alike, text)
            self.assertEqual((verdict.holds(), verdict.facts()), (True, facts))
            self.assertIs(are_alike(one, other, facts=tuple(facts)), True)
            self.assertIsNone(never_longer(one, other, facts=facts))
            if facts != [most(2, far("a", "c"))]:
                self.assertIs(are_alike(one, other), False)

    def test_parted_under_facts(self):
        one, other = read("road foot a b 3"), read("")
        facts = [least((31, 10), far("a", "b")), most((7, 2), far("a", "b"))]
        Told.check_parted(self, one, other, facts)
        exceeds = never_longer(other, one, facts=facts)
        self.assertTrue(exceeds.holds() and keeps(exceeds.world, facts))
        self.assertIsNone(never_longer(one, other, facts=facts))

    check_world = Told.check_world

    def test_facts_are_copied(self):
        facts = [most(3, far("a", "b"))]
        verdict = compare(read("road foot a b 3"), read(""), facts=facts)
        facts.clear()
        verdict.facts().clear()
        verdict.rows().clear()
        self.assertEqual((verdict.facts(), verdict.holds()), ([most(3, far("a", "b"))], True))


class Errors(unittest.TestCase):
    def test_in_their_order(self):
        too_many = read("road foot a c 1 ; road foot c b 1 ; repeat 3 ( if foot a b 9 ( ) else ( ) )")
        for call in (compare, are_alike, never_longer):
            for other in [read("", names=AB), read("", 2), read("forget a"), read("place d a 1 1"),
                          read("place d a 1 1 ; forget d"), read("same a b")]:
                raised(self, UnlikeScripts, call, too_many, other, facts=[None])
                raised(self, UnlikeScripts, call, other, too_many, facts=[None])
            for value in wrong_facts():
                if value != most(1, far("a", "c")) and value != most(1, far("c", "a")):
                    error = raised(self, InvalidFact, call, too_many, too_many, facts=[most(-1), value, None])
                    self.assertEqual(error.at, 1)
            for one, other in [(too_many, too_many), (read(""), too_many), (too_many, read(""))]:
                error = raised(self, TooMany, call, one, other, facts=[most(-1)])
                self.assertEqual((error.subject, error.most), ("cases", 60))

    def test_names_at_the_beginning(self):
        # Both end with the same names and put in no place.
        one, other = read("forget b", names=AB), read("", names=["a"])
        self.assertEqual((one.ends(), one.puts), (other.ends(), other.puts))
        for call in (compare, are_alike, never_longer):
            raised(self, UnlikeScripts, call, one, other)
            raised(self, UnlikeScripts, call, other, one)

    def test_layers_of_facts(self):
        fact = most(1, far("a", "b", layer="cart"))
        self.assertEqual(raised(self, InvalidFact, compare, read(""), read(""), facts=[fact]).at, 0)
        self.assertTrue(compare(read("", 2), read("", 2), facts=[fact]).holds())


class Drawn(unittest.TestCase):
    """Pairs that are drawn, held beside what run tells in worlds that are drawn."""

    def pairs(self, seed, many):
        source = random.Random(seed)
        for _ in range(many):
            names, layers = ABC[:source.randint(0, 3)], source.choice([1, 1, 2])
            one = draw_script(source, names, layers, 4)
            try:
                at = source.randrange(len(one)) if len(one) else 0
                other = source.choice([one.swapped, one.without])(at)
            except (MilesError, Missing):
                other = draw_script(source, names, layers, 2)
            yield source, one, other, draw_facts(source, names, layers)

    def test_drawn(self):
        told = {"alike": 0, "parted": 0}
        for source, one, other, facts in self.pairs(7, 90):
            try:
                verdict = compare(one, other, facts=facts)
            except (UnlikeScripts, TooMany):
                continue
            told[verdict.told().split()[0]] += 1
            self.assertTrue(verdict.holds())
            longer = [never_longer(one, other, facts=facts), never_longer(other, one, facts=facts)]
            self.assertEqual(longer == [None, None], isinstance(verdict, Alike))
            for found in [found for found in longer if found is not None]:
                self.assertTrue(found.holds() and keeps(found.world, facts))
            for _ in range(6):
                world = draw_world(source, one.names(), one.layers)
                world = world.grown(world, by=draw_ratio(source))
                if keeps(world, facts):
                    self.beside(one, other, world, longer)
        self.assertTrue(min(told.values()) > 10, told)

    def beside(self, one, other, world, longer):
        behind, other_behind = run(one, world), run(other, world)
        for layer in ("foot", "cart")[:one.layers]:
            for row, other_row in zip(behind.table(layer), other_behind.table(layer)):
                for distance, other_distance in zip(row, other_row):
                    self.assertFalse(longer[0] is None and is_less(other_distance, distance))
                    self.assertFalse(longer[1] is None and is_less(distance, other_distance))


if __name__ == "__main__":
    unittest.main()
