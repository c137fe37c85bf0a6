"""The entry of missingmiles/claims.py, and promise [16] as it needs it."""

import random
import unittest

from missingmiles.claims import exchangeable, needless, settles
from missingmiles.comparing import compare
from missingmiles.errors import InvalidFact, InvalidNumber, InvalidStep, MilesError, Missing, TooMany, UnlikeScripts
from missingmiles.scripts import Script
from missingmiles.verdicts import Alike
from tests.drawing import draw_facts, draw_script
from tests.helpers import ODD_VALUES, raised
from tests.test_facts import far, least, most, wrong_facts
from tests.test_lists import SWOLLEN

ABC = ["a", "b", "c"]
# One step with more than 60 cases.
WIDE = "repeat 3 ( road foot a c 1 ; road foot c b 1 ; if foot a b 9 ( ) else ( ) )"


def read(text, names=("a", "b", "c"), layers=1):
    return Script.read(names, text, layers=layers)


class Needless(unittest.TestCase):
    def test_plain(self):
        for text, layers, expected in [
                ("", 1, []), ("turn", 1, []), ("turn ; turn", 1, []), ("repeat 2 ( turn ) ; turn", 1, [0]),
                ("road foot a b 2 ; road foot a b 3", 1, [1]), ("road foot a b 3 ; road foot a b 2", 1, [0]),
                ("road foot a b 2 ; road foot a b 2", 1, [0, 1]), ("road foot a a 0", 1, [0]),
                ("cap foot 4 ; cap foot 3 ; cap foot 3 ; cap foot 5", 1, [0, 1, 2, 3]),
                ("cap foot 4 ; scale foot 1/2 ; cap foot 3", 1, [2]), ("scale foot 1 ; repeat 3 ( )", 1, [0, 1]),
                ("if foot a b 1 ( ) else ( ) ; cap cart 2", 2, [0]), ("ride foot a b 1 ; ride foot a b 0", 2, [0]),
                ("if foot a b 1 ( ) else ( road foot a b 1 ) ; road foot a b 1", 1, [0, 1])]:
            self.assertEqual(needless(read(text, layers=layers)), expected, text)

    def test_steps_that_cannot_be_left(self):
        for text, names, expected in [
                # The name is not there without the place, and is left over without the step `forget`.
                ("place d a 1 1 ; road foot a d 1 ; forget d", ABC, [1]), ("place d a 1 1 ; forget d", ABC, []),
                ("place d a 1 1 ; forget d ; place d b 1 1", ABC, []),
                ("place d a 0 0 ; place e a 0 0", ABC, []), ("forget a", ABC, []), ("same a b", ABC, []),
                ("same a b ; forget a", ABC, []), ("same a b ; road foot a c 3 ; road foot a c 4", ABC, [2]),
                ("place d a 1 1 ; place e a 1 1 ; forget c ; place c b 1 1", ABC, []),
                ("place d a 1 1 ; place e a 1 1 ; forget c ; place f b 1 1", ABC, [])]:
            self.assertEqual(needless(read(text, names)), expected, text)
        with self.assertRaises(TooMany):
            read("place d a 1 1 ; place e a 1 1 ; forget c ; place f b 1 1").without(2)

    def test_facts(self):
        capped = [most(3, far("a", "b"))]
        for text, facts, expected in [
                ("road foot a b 3", [], []), ("road foot a b 3", capped, [0]), ("road foot a b 2", capped, []),
                ("if foot a b 1 ( turn ) else ( )", [least(2, far("a", "b"))], [0]),
                ("turn ; scale foot 7", [most(-1)], [0, 1]),
                ("road foot a c 4", [*capped, most(1, far("b", "c"))], [0])]:
            self.assertEqual(needless(read(text), facts=facts), expected, text)
            self.assertEqual(needless(script=read(text), facts=tuple(facts)), expected, text)
        fact = most(1, far("a", "b", layer="cart"))
        self.assertEqual(needless(read("road cart a b 1 ; road foot a b 1", layers=2), facts=[fact]), [0])

    def test_lists_are_new(self):
        script, facts = read("turn ; scale foot 1"), [most(3, far("a", "b"))]
        needless(script, facts=facts).append(7)
        exchangeable(script, facts=facts).append(7)
        self.assertEqual((needless(script, facts=facts), exchangeable(script, facts=facts)), ([1], [0]))
        self.assertEqual(facts, [most(3, far("a", "b"))])


class Exchangeable(unittest.TestCase):
    def test_plain(self):
        for text, layers, expected in [
                ("", 1, []), ("turn", 1, []), ("turn ; cap foot 3", 1, [0]), ("scale foot 2 ; cap foot 3", 1, []),
                ("scale foot 2 ; turn ; cap foot 3", 1, [0, 1]), ("cap foot 1 ; cap cart 2 ; scale foot 3", 2, [0, 1]),
                ("road foot a b 1 ; road foot b c 1", 1, [0]), ("road foot a b 2 ; turn", 1, []),
                ("road foot a b 2 ; scale foot 2", 1, []), ("place d a 1 1 ; cap foot 1", 1, []),
                ("ride cart a b 0 ; road foot a b 1", 2, []), ("ride cart a b 0 ; road foot b a 1", 2, [0]),
                ("forget a ; forget b", 1, [0]), ("forget a ; road foot b c 1", 1, [0]),
                ("if foot a b 1 ( turn ) else ( ) ; scale foot 2", 1, []),
                ("if foot a b 1 ( turn ) else ( ) ; cap foot 2", 1, [0]),
                ("place d a 1 1 ; place e a 1 1", 1, [0]), ("turn ; turn ; turn", 1, [0, 1])]:
            self.assertEqual(exchangeable(read(text, layers=layers)), expected, text)

    def test_steps_that_cannot_be_exchanged(self):
        for text, expected in [("road foot a b 1 ; forget a", []), ("place d a 1 1 ; road foot d b 1", []),
                               ("place d a 1 1 ; place e d 1 1", []), ("place d a 1 1 ; place e a 2 2", []),
                               ("forget a ; place a b 1 1", []), ("same a b ; forget a", []),
                               ("same a b ; same a c ; turn", [0, 1]), ("place d a 1 2 ; forget d ; scale foot 1", [1]),
                               ("place d a 1 1 ; place e a 1 1 ; forget c ; place f b 1 1", [0, 1])]:
            self.assertEqual(exchangeable(read(text)), expected, text)

    def test_facts(self):
        script = read("scale foot 2 ; road foot a b 1")
        for facts, expected in [([], []), ([most(1, far("a", "b"))], []), ([most((1, 2), far("a", "b"))], [0]),
                                ((most(-1),), [0])]:
            self.assertEqual(exchangeable(script=script, facts=facts), expected)


class Settles(unittest.TestCase):
    def test_at_one(self):
        for text, layers in [("", 1), ("cap foot 3", 1), ("road foot a b 2", 1), ("road foot b c 1 ; road foot a b 1", 1),
                             ("scale foot 1", 1), ("repeat 2 ( turn )", 2), ("ride foot a b 1", 2),
                             ("if foot a b 1 ( ) else ( road foot a b 1 )", 1),
                             ("cap foot 1 ; cap foot 2 ; cap foot 3 ; cap foot 4 ; cap foot 5", 1)]:
            script = read(text, layers=layers)
            for more in ({}, {"most": 1}, {"most": 2}):
                self.assertEqual(settles(script, **more), 1, text)

    def test_at_two(self):
        for text, names, layers in [("ride cart a b 0 ; road foot a b 1", "ab", 2),
                                    ("if foot a b 5 ( cap foot 1 ) else ( cap foot 5 )", "ab", 1)]:
            script = read(text, names, layers)
            self.assertEqual((settles(script), settles(script, most=2), settles(script, most=1)), (2, 2, None), text)

    def test_at_none(self):
        for text, layers in [("turn", 1), ("scale foot 2", 1), ("round foot", 1), ("scale foot 999/1000", 1),
                             ("if foot a b 1 ( turn ) else ( )", 1),
                             # What the road tells comes to the first step in the third turn only.
                             ("ride foot a c 0 ; ride cart a b 0 ; road foot a b 1", 2)]:
            script = read(text, layers=layers)
            self.assertEqual((settles(script), settles(script, most=1)), (None, None), text)

    def test_facts(self):
        flip = read("if foot a b 1 ( turn ) else ( )")
        self.assertEqual(settles(flip, facts=[least(2, far("a", "b"))]), 1)
        self.assertEqual(settles(read("turn"), facts=[most(-1)]), 1)
        script = read("ride cart a b 0 ; road foot a b 1", "ab", 2)
        self.assertEqual(settles(script=script, most=2, facts=(most(1, far("a", "b")),)), 1)
        self.assertEqual(settles(script, facts=[most(1, far("b", "a"))]), 2)

    def test_steps_that_are_counted_only_if_they_are_done(self):
        # Three times five steps in a repeat are too many, which does not matter if it settles before.
        self.assertEqual(settles(read("turn ; turn ; turn ; turn ; scale foot 1")), 1)
        five = read("turn ; turn ; turn ; turn ; turn")
        self.assertIsNone(settles(five, most=1))
        error = raised(self, TooMany, settles, five)
        self.assertEqual((error.subject, error.most), ("steps", 12))


class Errors(unittest.TestCase):
    def test_facts_come_first(self):
        for call in (needless, exchangeable):
            for text in ["", "turn", WIDE, SWOLLEN]:
                for value in wrong_facts():
                    if value != most(1, far("a", "c")) and value != most(1, far("c", "a")):
                        error = raised(self, InvalidFact, call, read(text), facts=[most(-1), value, None])
                        self.assertEqual(error.at, 1)

    def test_too_many_for_the_script_itself(self):
        for call in (needless, exchangeable):
            for text, subject, number in [(WIDE, "cases", 60), (f"{WIDE} ; turn", "cases", 60), (SWOLLEN, "forms", 200)]:
                for facts in ([], [most(-1)]):
                    error = raised(self, TooMany, call, read(text), facts=facts)
                    self.assertEqual((error.subject, error.most), (subject, number))
        # One step has none to be exchanged with.
        self.assertEqual(len(read(WIDE)), 1)

    def test_too_many_for_what_is_left(self):
        error = raised(self, TooMany, needless, read(f"cap foot 0 ; {SWOLLEN}"))
        self.assertEqual((error.subject, error.most), ("forms", 200))
        error = raised(self, TooMany, needless, read(f"cap foot 0 ; {WIDE}"))
        self.assertEqual((error.subject, error.most), ("cases", 60))

    def test_too_many_for_what_is_exchanged(self):
        *rest, last = SWOLLEN.split(" ; ")
        script = read(" ; ".join([*rest, "cap foot 0", last]))
        error = raised(self, TooMany, exchangeable, script)
        self.assertEqual((error.subject, error.most), ("forms", 200))
        self.assertEqual(needless(read("cap foot 0 ; turn ; cap foot 0")), [0, 1, 2])

    def test_too_many_for_what_does_not_fit(self):
        # Without its first step the script would have too many forms, but it would not fit.
        script = read(f"repeat 1 ( cap foot 0 ; forget c ) ; {SWOLLEN}")
        self.assertEqual(needless(script), [1, 2, 3, 4, 5, 6])

    def test_most(self):
        for value in [*ODD_VALUES, 0, 3, -1, 4, (1, 1), 10 ** 20]:
            for text in ["", "forget a", "turn", SWOLLEN]:
                error = raised(self, InvalidNumber, settles, read(text), most=value, facts=[None])
                self.assertEqual(error.given, value)

    def test_scripts_that_do_not_end_as_they_begin(self):
        for text in ["forget a", "same a b", "place d a 1 1", "place d a 1 1 ; forget d", "forget a ; place a b 1 1",
                     "place d a 1 1 ; forget a", "repeat 1 ( forget a )", f"{SWOLLEN} ; forget c"]:
            for number in (1, 2):
                raised(self, UnlikeScripts, settles, read(text), most=number, facts=[None])

    def test_facts_ahead_of_what_is_done(self):
        for text in ["", "turn", SWOLLEN, WIDE, "repeat 1 ( repeat 1 ( turn ) )"]:
            error = raised(self, InvalidFact, settles, read(text), facts=[most(1), most(1, far("a", "d"))])
            self.assertEqual(error.at, 1)

    def test_errors_of_what_is_done(self):
        for text, most_times, subject, number in [
                (SWOLLEN, 2, "steps", 12), ("turn ; turn ; turn ; turn ; turn ; turn", 1, "steps", 12),
                ("if foot a b 1 ( ) else ( ) ; if foot a b 1 ( ) else ( )", 1, "tests", 3),
                ("repeat 2 ( road foot a c 1 ; if foot a b 1 ( ) else ( ) )", 2, "tests", 3),
                ("road foot a c 1 ; cap foot 50 ; round foot ; if foot a b 9 ( ) else ( )", 1, "cases", 60)]:
            error = raised(self, TooMany, settles, read(text), most=most_times)
            self.assertEqual((error.subject, error.most), (subject, number), text)
        error = raised(self, InvalidStep, settles, read("repeat 1 ( turn ; repeat 2 ( cap foot 1 ) )"))
        self.assertEqual(error.path, (0, 0, 1, 0))


class Drawn(unittest.TestCase):
    """Scripts that are drawn, held beside compare for what is made of them step by step."""

    def test_drawn(self):
        source = random.Random(23)
        told = {"left": 0, "exchanged": 0}
        for _ in range(80):
            names, layers = ABC[:source.randint(1, 3)], source.choice([1, 1, 2])
            script, facts = draw_script(source, names, layers, 4), draw_facts(source, names, layers)
            try:
                left, exchanged = needless(script, facts=facts), exchangeable(script, facts=facts)
            except TooMany:
                continue
            self.assertEqual(left, [at for at in range(len(script)) if self.is_same(script, script.without, at, facts)])
            self.assertEqual(exchanged, [at for at in range(len(script) - 1)
                                         if self.is_same(script, script.swapped, at, facts)])
            told["left"] += len(left)
            told["exchanged"] += len(exchanged)
        self.assertTrue(min(told.values()) > 10, told)

    def is_same(self, script, change, at, facts):
        try:
            verdict = compare(script, change(at), facts=facts)
        except (MilesError, Missing):
            return False
        self.assertTrue(verdict.holds())
        return isinstance(verdict, Alike)


if __name__ == "__main__":
    unittest.main()
