"""Promise [8] with [7] and [9] as far as scripts need them, and the entry of missingmiles/scripts.py."""

import random
import unittest

from missingmiles.errors import (DuplicateName, InvalidName, InvalidNumber, InvalidStep, InvalidText, TooMany,
                                 UnknownName, UnlikeEnds, UnlikeScripts, UnlikeWorlds)
from missingmiles.scripts import Script, run, trace
from missingmiles.steps import changed
from missingmiles.texts import read_steps
from missingmiles.worlds import World
from tests.drawing import draw_script, draw_world
from tests.helpers import ODD_VALUES, raised

ROAD = ("road", "foot", "a", "b", 1)
TURN = ("turn",)
AB = ["a", "b"]
ABC = ["a", "b", "c"]
# Odd values in the place of a step: the tuples that are none, and whatever is no tuple.
WRONG_STEPS = [*ODD_VALUES, 0, "turn", ["turn"], ("turn", 1), ("Turn",), ("road",), ("road", "foot", "a", "b"),
               ("road", "foot", "a", "b", -1), ("road", "foot", "a", "b", (2, 4)), ("road", "foot", "a", "b", True),
               ("road", "foot", "A", "b", 1), ("road", "rail", "a", "b", 1), ("road", "foot", "a", "b", 1, 1),
               ["road", "foot", "a", "b", 1], ("same", "a", "a"), ("scale", "foot", 0), ("cap", "foot", "1"),
               ("place", "c", "a", 1), ("place", "c", "a", 1, (1, -2)), ("forget", 1), ("round", None), ("ride",)]
WRONG_BRANCHES = [("if",), ("if", "foot", "a", "b", 1, ()), ("if", "foot", "a", "b", 1, (), (), ()),
                  ("if", "foot", "a", "b", 1, [], ()), ("if", "foot", "a", "b", 1, (), []),
                  ("if", "foot", "a", "b", 1, (), None), ("if", "rail", "a", "b", 1, (), ()),
                  ("if", "foot", "a", "?1", 1, (), ()), ("if", "foot", "", "b", 1, (), ()),
                  ("if", "foot", "a", "b", -1, (), ()), ("if", "foot", "a", "b", True, (), ()),
                  ["if", "foot", "a", "b", 1, (), ()], ("repeat",), ("repeat", 2), ("repeat", 0, ()),
                  ("repeat", 4, ()), ("repeat", True, ()), ("repeat", "2", ()), ("repeat", (2, 1), ()),
                  ("repeat", 2, []), ("repeat", 2, None), ("repeat", 2, (), ()), ["repeat", 2, ()],
                  ("repeat", 2, "turn")]


def ask(first, second, most=1):
    """A step `if` on the distance from a to b."""
    return ("if", "foot", "a", "b", most, tuple(first), tuple(second))


def again(many, *steps):
    return ("repeat", many, steps)


class Constructor(unittest.TestCase):
    def test_document(self):
        self.assertEqual(raised(self, UnknownName, Script, ["a"], (("forget", "b"),)).name, "b")

    def test_plain(self):
        self.assertEqual((Script.MOST, Script.TESTS), (12, 3))
        steps = (("place", "d", "b", (1, 2), 3), ask([ROAD], []), again(2, TURN), ("forget", "a"))
        script = Script(["b", "a"], steps, layers=2)
        self.assertEqual((script.names(), script.ends(), script.layers), (["a", "b"], ["b", "d"], 2))
        self.assertEqual((script.tests, script.puts, len(script), script.steps()), (1, 1, 4, steps))
        self.assertEqual(script.text(), "place d b 1/2 3 ; if foot a b 1 ( road foot a b 1 ) else ( ) ; "
                                        "repeat 2 ( turn ) ; forget a")
        self.assertEqual(repr(script), "Script(a b: 4 steps)")
        self.assertTrue(script)

    def test_empty(self):
        script = Script([])
        self.assertEqual((script.names(), script.ends(), script.layers, script.tests, script.puts), ([], [], 1, 0, 0))
        self.assertEqual((script.steps(), script.text(), len(script)), ((), "", 0))
        self.assertEqual(repr(script), "Script(-: 0 steps)")
        self.assertTrue(script)
        self.assertEqual(repr(Script(("a",), (TURN,))), "Script(a: 1 steps)")

    def test_by_name(self):
        self.assertEqual(Script(names=["a"], steps=(TURN,), layers=2), Script(["a"], (TURN,), layers=2))

    def test_steps_as_they_were_passed(self):
        steps = (("cap", "foot", 3), ("scale", "foot", (3, 1)), again(1, ("cap", "foot", (5, 1))))
        self.assertEqual(Script([], steps).steps(), steps)
        self.assertEqual(Script([], steps).steps()[0][2], 3)

    def test_wrong_names(self):
        for value in [*ODD_VALUES, 0, "A", "abcdef", "a1", "?1", "+1"]:
            self.assertEqual(raised(self, InvalidName, Script, ["a", value, "B"]).given, value)
        self.assertEqual(raised(self, InvalidName, Script, ["a", "a", "b", "c", "d", 0], 7, layers=9).given, 0)
        self.assertEqual(raised(self, DuplicateName, Script, ["a", "b", "c", "b", "a"], (1,), layers=9).name, "b")
        error = raised(self, TooMany, Script, ["a", "b", "c", "d"], (1,), layers=9)
        self.assertEqual((error.subject, error.most), ("names", 3))

    def test_wrong_layers(self):
        for value in [value for value in ODD_VALUES] + [0, 3, -1, (1, 1), "2"]:
            self.assertEqual(raised(self, InvalidNumber, Script, ["a"], (1,), layers=value).given, value)

    def test_lists_are_copied(self):
        names = ["b", "a"]
        script = Script(names)
        names.append("c")
        script.names().append("d")
        script.ends().clear()
        self.assertEqual((names, script.names(), script.ends()), (["b", "a", "c"], ["a", "b"], ["a", "b"]))


class Forms(unittest.TestCase):
    """InvalidStep, wherever the value stands."""

    def path(self, names, steps, layers=1):
        return raised(self, InvalidStep, Script, names, steps, layers=layers).path

    def test_each_place(self):
        for wrong in [*WRONG_STEPS, *WRONG_BRANCHES]:
            self.assertEqual(self.path(AB, (wrong,)), (0,))
            self.assertEqual(self.path(AB, (TURN, wrong, None)), (1,))
            self.assertEqual(self.path(AB, (TURN, ask([TURN, wrong], [None]))), (1, 1))
            self.assertEqual(self.path(AB, (ask([TURN, TURN], [TURN, wrong]),)), (0, 3))
            self.assertEqual(self.path(AB, (ask([], [wrong]),)), (0, 0))
            self.assertEqual(self.path(AB, (again(2, TURN, wrong),)), (0, 1))
            self.assertEqual(self.path(AB, (TURN, again(1, ask([TURN], [TURN, wrong])))), (1, 0, 2))
            self.assertEqual(self.path(AB, (ask([TURN], [again(3, wrong)]),)), (0, 1, 0))

    def test_each_step_ahead_of_those_in_it(self):
        bad_if = ("if", "foot", "a", "b", -1, (None,), ())
        self.assertEqual(self.path(AB, (bad_if,)), (0,))
        self.assertEqual(self.path(AB, (ask([None], []), None)), (0, 0))
        self.assertEqual(self.path(AB, (again(2, bad_if), None)), (0, 0))
        self.assertEqual(self.path(AB, (("repeat", 4, (None,)),)), (0,))

    def test_depth(self):
        deepest = (ask([again(2, TURN)], [ask([TURN], [])]), again(1, again(1, again(1))))
        self.assertEqual(len(Script(AB, deepest)), 2)
        self.assertEqual(self.path(AB, (ask([again(2, again(1, TURN))], []),)), (0, 0, 0, 0))
        self.assertEqual(self.path(AB, (again(1, again(1, ask([], [TURN]))),)), (0, 0, 0, 0))
        self.assertEqual(self.path(AB, (TURN, again(1, TURN, again(1, ask([], []), ask([], [None]))), None)),
                         (1, 1, 1, 0))

    def test_layers(self):
        for step in [("ride", "foot", "a", "b", 1), ("road", "cart", "a", "b", 1), ("cap", "cart", 1),
                     ("scale", "cart", 1), ("round", "cart"), ("if", "cart", "a", "b", 1, (), ())]:
            self.assertEqual(self.path(AB, (step,)), (0,))
            self.assertEqual(self.path(AB, (again(1, step),)), (0, 0))
            self.assertEqual(len(Script(AB, (step, again(1, step)), layers=2)), 2)
        self.assertEqual(self.path(AB, (("ride", "rail", "a", "b", 1),), 2), (0,))

    def test_ahead_of_all_other_errors_of_steps(self):
        self.assertEqual(self.path(["a"], (("forget", "b"), *[TURN] * 13, None)), (14,))
        self.assertEqual(self.path(AB, (*[ask([], [])] * 4, ask([None], []))), (4, 0))


class Bounds(unittest.TestCase):
    def most(self, names, steps):
        error = raised(self, TooMany, Script, names, steps)
        return (error.subject, error.most)

    def test_steps(self):
        for twelve in [[TURN] * 12, [again(3, TURN, TURN, TURN), TURN, TURN], [again(1, *[TURN] * 11)],
                       [ask([TURN] * 5, [TURN] * 6)], [again(2, ask([TURN], [TURN]), TURN), TURN, TURN, TURN],
                       [again(3, again(2, TURN)), TURN, TURN], [again(1)] * 12]:
            script = Script(AB, tuple(twelve))
            self.assertEqual(script.steps(), tuple(twelve))
            self.assertEqual(self.most(AB, (*twelve, TURN)), ("steps", 12))
            self.assertEqual(self.most(AB, (TURN, *twelve)), ("steps", 12))
        self.assertEqual(self.most(AB, (again(3, TURN, TURN, TURN, TURN),)), ("steps", 12))
        self.assertEqual(self.most(AB, (ask([TURN] * 6, [TURN] * 6),)), ("steps", 12))

    def test_tests(self):
        one = ask([], [])
        for three in [[one] * 3, [again(3, one)], [ask([one], [one])], [again(2, one), one],
                      [ask([ask([one], [])], [])]]:
            self.assertEqual(Script(AB, tuple(three)).tests, 3)
            self.assertEqual(self.most(AB, (*three, one)), ("tests", 3))
        self.assertEqual(self.most(AB, (again(2, one, one),)), ("tests", 3))
        self.assertEqual(self.most(AB, (ask([one], [ask([], [one])]),)), ("tests", 3))
        self.assertEqual(Script(AB, (again(2, one), TURN)).tests, 2)

    def test_puts(self):
        put = [("place", name, "a", 1, 2) for name in "bcde"]
        self.assertEqual(Script(["a"], tuple(put[:3])).puts, 3)
        self.assertEqual(self.most(["a"], tuple(put)), ("puts", 3))
        thrice = again(3, put[0], ("forget", "b"))
        self.assertEqual(Script(["a"], (thrice,)).puts, 3)
        self.assertEqual(self.most(["a"], (thrice, put[0])), ("puts", 3))
        self.assertEqual(self.most(["a"], (again(2, put[0], put[0]),)), ("puts", 3))
        # A `place` in an `if` is counted, too, before it is refused.
        self.assertEqual(self.most(AB, (ask(put[:2], put[:2]),)), ("puts", 3))

    def test_order(self):
        one, put = ask([], []), ("place", "b", "a", 1, 1)
        self.assertEqual(self.most(AB, (*[one] * 4, *[put] * 4, *[TURN] * 5)), ("steps", 12))
        self.assertEqual(self.most(AB, (*[one] * 4, *[put] * 4)), ("tests", 3))
        self.assertEqual(self.most(AB, (("forget", "z"), *[put] * 4)), ("puts", 3))


class Names(unittest.TestCase):
    def test_unknown_in_each_step(self):
        for step, name in [(("road", "foot", "x", "y", 1), "x"), (("road", "foot", "a", "y", 1), "y"),
                           (("ride", "foot", "x", "a", 1), "x"), (("ride", "cart", "a", "y", 1), "y"),
                           (("place", "y", "x", 1, 1), "x"), (("place", "a", "x", 1, 1), "x"),
                           (("same", "x", "y"), "x"), (("same", "a", "y"), "y"), (("forget", "x"), "x"),
                           (("if", "foot", "x", "y", 1, (), ()), "x"), (("if", "foot", "a", "y", 1, (), ()), "y")]:
            for steps in [(step,), (TURN, step, ("forget", "z")), (again(2, step),), (ask([step], []),),
                          (ask([], [step]),), (again(1, ask([], [TURN, step])),)]:
                self.assertEqual(raised(self, UnknownName, Script, AB, steps, layers=2).name, name)

    def test_names_that_are_gone(self):
        self.assertEqual(raised(self, UnknownName, Script, AB, (("same", "a", "b"), ROAD)).name, "b")
        self.assertEqual(raised(self, UnknownName, Script, AB, (("forget", "a"), ROAD)).name, "a")
        self.assertEqual(raised(self, UnknownName, Script, AB, (again(2, ("forget", "b")),)).name, "b")
        self.assertEqual(Script(AB, (again(1, ("forget", "b")),)).ends(), ["a"])
        self.assertEqual(Script(AB, (("same", "b", "a"),)).ends(), ["b"])
        steps = (("forget", "a"), ("place", "a", "b", 1, 1), ROAD)
        self.assertEqual(Script(AB, steps).ends(), ["a", "b"])

    def test_first_part_first(self):
        one, other = ("forget", "x"), ("forget", "y")
        self.assertEqual(raised(self, UnknownName, Script, AB, (ask([one], [other]),)).name, "x")
        self.assertEqual(raised(self, UnknownName, Script, AB, (ask([], [other]), one)).name, "y")
        # What the first part forgets is there in the second one.
        self.assertEqual(Script(AB, (ask([("forget", "a")], [("forget", "a")]),)).ends(), ["b"])

    def test_names_that_are_words_of_steps(self):
        names = ["foot", "round", "turn"]
        script = Script.read(names, "turn ; round foot ; road foot foot turn 1 ; cap foot 2 ; scale foot 3")
        self.assertEqual((script.ends(), len(script)), (names, 5))

    def test_duplicates(self):
        for steps in [(("place", "b", "a", 1, 1),), (("place", "c", "a", 1, 1), ("place", "c", "a", 1, 1)),
                      (again(2, ("place", "c", "a", 1, 1)),), (ask([("place", "b", "a", 1, 1)], []),)]:
            self.assertIn(raised(self, DuplicateName, Script, AB, steps).name, ("b", "c"))
        self.assertEqual(raised(self, DuplicateName, Script, ["a"], (("place", "a", "a", 1, 1),)).name, "a")

    def test_too_many(self):
        puts = tuple(("place", name, "a", 1, 1) for name in "xyz")
        self.assertEqual(Script(AB, puts).ends(), ["a", "b", "x", "y", "z"])
        error = raised(self, TooMany, Script, ABC, puts)
        self.assertEqual((error.subject, error.most), ("names", 5))
        self.assertEqual(raised(self, DuplicateName, Script, ABC, (*puts[:2], puts[0])).name, "x")
        self.assertEqual(len(Script(ABC, (*puts[:2], ("forget", "x"), puts[2])).ends()), 5)

    def test_unlike_ends(self):
        put = ("place", "c", "a", 1, 1)
        for first, second in [([("forget", "a")], []), ([], [("same", "a", "b")]), ([put], [put]),
                              ([put, ("forget", "c")], []), ([("same", "a", "b")], [("same", "b", "a")])]:
            step = ask(first, second)
            self.assertEqual(raised(self, UnlikeEnds, Script, AB, (step,)).path, (0,))
            self.assertEqual(raised(self, UnlikeEnds, Script, AB, (TURN, again(1, TURN, step))).path, (1, 1))
            outer = ask([TURN], [TURN, step])
            self.assertEqual(raised(self, UnlikeEnds, Script, AB, (TURN, outer, ("forget", "x"))).path, (1, 2))

    def test_a_place_at_any_depth(self):
        put = again(1, ("place", "c", "a", 1, 1), ("forget", "c"))
        for steps, path in [((TURN, ask([], [put])), (1,)), ((ask([put], [put]),), (0,)),
                            ((ask([ask([], list(put[2]))], []),), (0, 0)), ((put, ask([], [put])), (1,))]:
            self.assertEqual(raised(self, UnlikeEnds, Script, AB, steps).path, path)
        self.assertEqual(Script(AB, (put, ask([], []), put)).ends(), AB)

    def test_unlike_ends_behind_the_errors_of_the_parts(self):
        error = raised(self, UnknownName, Script, AB, (ask([("forget", "a")], [("forget", "x")]),))
        self.assertEqual(error.name, "x")
        self.assertEqual(raised(self, UnknownName, Script, AB, (ROAD, ask([], []), ("forget", "x"),
                                                                ask([("forget", "a")], []))).name, "x")

    def test_same_ends_by_other_ways(self):
        step = ask([("same", "a", "b")], [("forget", "b")])
        self.assertEqual(Script(AB, (step,)).ends(), ["a"])
        self.assertEqual(Script(ABC, (ask([("forget", "a"), ("forget", "c")], [("forget", "c"), ("forget", "a")]),))
                         .ends(), ["b"])


class Read(unittest.TestCase):
    def test_plain(self):
        script = Script.read(["b", "a"], "road foot a b 1/2 ; turn", layers=2)
        self.assertEqual(script.steps(), (("road", "foot", "a", "b", (1, 2)), TURN))
        self.assertEqual((script.names(), script.layers), (AB, 2))
        self.assertEqual(Script.read([], "").steps(), ())
        self.assertEqual(Script.read(names=[], text="turn"), Script([], (TURN,)))

    def test_errors(self):
        for value in [value for value in ODD_VALUES if not isinstance(value, str)]:
            self.assertEqual(raised(self, InvalidText, Script.read, ["A"], value, layers=3).word, 0)
        self.assertEqual(raised(self, InvalidText, Script.read, ["A"], "turn turn", layers=3).word, 1)
        self.assertEqual(raised(self, InvalidName, Script.read, ["A"], "turn", layers=3).given, "A")
        self.assertEqual(raised(self, InvalidNumber, Script.read, ["a"], "turn", layers=3).given, 3)
        self.assertEqual(raised(self, InvalidStep, Script.read, AB, "turn ; ride foot a b 1").path, (1,))
        self.assertEqual(raised(self, UnknownName, Script.read, AB, "forget c").name, "c")

    def test_back(self):
        source = random.Random(1)
        for _ in range(60):
            script = draw_script(source, ABC[:source.randint(0, 3)], source.choice([1, 2]), 6)
            again_read = Script.read(script.names(), script.text(), layers=script.layers)
            self.assertEqual(again_read, script)
            self.assertEqual(again_read.steps(), read_steps(script.text()))


class Together(unittest.TestCase):
    def test_without(self):
        script = Script.read(AB, "turn ; forget b ; cap foot 3")
        self.assertEqual([script.without(at).text() for at in range(3)],
                         ["forget b ; cap foot 3", "turn ; cap foot 3", "turn ; forget b"])
        self.assertEqual(script.without(1).ends(), AB)
        self.assertEqual((script.text(), script.without(at=0).layers), ("turn ; forget b ; cap foot 3", 1))
        for value in [*ODD_VALUES, 3, -1, "0", (0, 1)]:
            self.assertEqual(raised(self, InvalidNumber, script.without, value).given, value)
        self.assertEqual(raised(self, InvalidNumber, Script([]).without, 0).given, 0)
        named = Script.read(["a"], "place b a 1 1 ; forget b")
        self.assertEqual(raised(self, UnknownName, named.without, 0).name, "b")
        self.assertEqual(named.without(1).ends(), AB)

    def test_swapped(self):
        script = Script.read(AB, "turn ; forget b ; cap foot 3")
        self.assertEqual([script.swapped(at).text() for at in range(2)],
                         ["forget b ; turn ; cap foot 3", "turn ; cap foot 3 ; forget b"])
        for value in [*ODD_VALUES, 2, 3, -1, "0", (0, 1)]:
            self.assertEqual(raised(self, InvalidNumber, script.swapped, value).given, value)
        self.assertEqual(raised(self, InvalidNumber, Script([], (TURN,)).swapped, 0).given, 0)
        named = Script.read(["a"], "place b a 1 1 ; forget b", layers=2)
        self.assertEqual(raised(self, UnknownName, named.swapped, 0).name, "b")
        self.assertEqual(Script([], (TURN, TURN), layers=2).swapped(at=0).layers, 2)

    def test_sum(self):
        one = Script.read(AB, "same a b ; place c a 1 1", layers=2)
        other = Script.read(["c", "a"], "ride foot a c 1", layers=2)
        both = one + other
        self.assertEqual((both.names(), both.ends(), both.layers), (AB, ["a", "c"], 2))
        self.assertEqual(both.text(), "same a b ; place c a 1 1 ; ride foot a c 1")
        for unlike in [Script(AB, layers=2), Script(["a", "c"]), Script(["a"], layers=2),
                       Script(["a", "c", "b"], layers=2)]:
            raised(self, UnlikeScripts, one.__add__, unlike)
        self.assertEqual((one.text(), other.text()), ("same a b ; place c a 1 1", "ride foot a c 1"))

    def test_errors_of_the_constructor_in_a_sum(self):
        many = Script([], (TURN,) * 7)
        error = raised(self, TooMany, many.__add__, many)
        self.assertEqual((error.subject, error.most), ("steps", 12))
        tested = Script(AB, (ask([], []), ask([], [])))
        self.assertEqual(raised(self, TooMany, tested.__add__, tested).subject, "tests")
        put = Script.read(["a"], "place b a 1 1 ; place c a 1 1 ; forget b ; forget c")
        self.assertEqual(raised(self, TooMany, put.__add__, put).subject, "puts")
        three = Script.read(["a", "b", "c"], "place d a 1 1 ; place e a 1 1 ; forget a ; forget b")
        four = Script.read(["c", "d", "e"], "")
        self.assertEqual((three + four).text(), three.text())

    def test_multiple(self):
        script = Script.read(AB, "turn ; road foot a b 1", layers=2)
        self.assertEqual([(script * many).text() for many in (1, 2, 3)],
                         [f"repeat {many} ( turn ; road foot a b 1 )" for many in (1, 2, 3)])
        self.assertEqual((script * 2).steps(), (("repeat", 2, script.steps()),))
        self.assertEqual(((script * 2).layers, len(script * 2)), (2, 1))
        for value in [*ODD_VALUES, 0, 4, -1, "2", (2, 1)]:
            self.assertEqual(raised(self, InvalidNumber, script.__mul__, value).given, value)

    def test_errors_of_the_constructor_in_a_multiple(self):
        self.assertEqual(raised(self, UnknownName, Script(AB, (("forget", "a"),)).__mul__, 2).name, "a")
        self.assertEqual(raised(self, TooMany, Script([], (TURN,) * 4).__mul__, 3).subject, "steps")
        self.assertEqual(raised(self, TooMany, Script([], (TURN,) * 12).__mul__, 1).subject, "steps")
        deep = Script([], (again(1, again(1, TURN)),))
        self.assertEqual(raised(self, InvalidStep, deep.__mul__, 1).path, (0, 0, 0, 0))

    def test_equal(self):
        script = Script(AB, (("cap", "foot", 3),))
        self.assertEqual(script, Script(["b", "a"], (("cap", "foot", (3, 1)),)))
        self.assertEqual(script, Script.read(AB, "cap foot 3"))
        for other in [Script(AB, (("cap", "foot", 4),)), Script(AB, (("cap", "foot", 3),), layers=2),
                      Script(["a"], (("cap", "foot", 3),)), Script(AB), "cap foot 3", None, 1]:
            self.assertFalse(script == other)
            self.assertTrue(script != other)


class Running(unittest.TestCase):
    def setUp(self):
        self.world = World({"a": 0, "b": 1}, [[0, 4], [7, 0]])

    def test_document(self):
        script = Script.read(AB, "road foot a b 1 ; round foot")
        self.assertEqual(run(script, self.world).far("a", "b"), (8, 1))

    def test_nothing(self):
        self.assertEqual(run(Script(AB), self.world), self.world)
        self.assertEqual(list(trace(Script(AB, (again(3), ask([], []))), self.world)), [])

    def test_each_step_one_after_the_other(self):
        script = Script.read(AB, "repeat 2 ( scale foot 2 ) ; place c b 1 2 ; forget b ; cap foot 20")
        expected, present = [], self.world
        steps = [("scale", "foot", (2, 1))] * 2 + list(script.steps()[1:])
        for step in steps:
            present = changed(present, step)
            expected.append((step, present))
        self.assertEqual(list(trace(script, self.world)), expected)
        self.assertEqual(run(script, self.world), present)
        self.assertEqual(self.world, World({"a": 0, "b": 1}, [[0, 4], [7, 0]]))

    def test_steps_are_told_as_they_were_passed(self):
        script = Script(AB, (again(2, ("cap", "foot", 3)),))
        self.assertEqual([step for step, _ in trace(script, self.world)], [("cap", "foot", 3)] * 2)

    def test_tests(self):
        for most, done in [(3, 9), ((7, 2), 9), (4, 1), ((4, 1), 1), (5, 1), ((9, 2), 1), (0, 9)]:
            script = Script(AB, (ask([("cap", "foot", 1)], [("cap", "foot", 9)], most),))
            self.assertEqual([step for step, _ in trace(script, self.world)], [("cap", "foot", done)])

    def test_the_present_distance_is_asked(self):
        halved = ask([("turn",)], [("scale", "foot", (1, 2))], 2)
        script = Script(AB, (again(3, halved),))
        self.assertEqual([step[0] for step, _ in trace(script, self.world)], ["scale", "turn", "scale"])
        script = Script(AB, (("if", "foot", "b", "b", 0, (TURN,), ()), ask([], [TURN], 6), ask([], [TURN], 6)))
        self.assertEqual([step[0] for step, _ in trace(script, self.world)], ["turn", "turn"])

    def test_two_layers(self):
        world = World({"a": 0, "b": 1}, [[0, 4], [7, 0]], cart=[[0, 1], [2, 0]])
        script = Script.read(AB, "if cart b a 1 ( turn ) else ( ride foot a b 1 ) ; ride cart b a 0", layers=2)
        behind = run(script, world)
        self.assertEqual((behind.table(), behind.table("cart")),
                         ([[(0, 1), (2, 1)], [(7, 1), (0, 1)]], [[(0, 1), (1, 1)], [(2, 1), (0, 1)]]))

    def test_the_layer_that_is_asked(self):
        world = World({"a": 0, "b": 1}, [[0, 9], [9, 0]], cart=[[0, 1], [1, 0]])
        for layer, far in [("foot", 3), ("cart", 2)]:
            script = Script.read(["a", "b"], f"if {layer} a b 5 ( cap foot 2 ) else ( cap foot 3 )", layers=2)
            self.assertEqual(run(script, world).far("a", "b"), (far, 1))

    def test_unlike_worlds(self):
        script = Script(AB, (TURN,))
        for world in [World({"a": 0}, [[0, 4], [7, 0]]), World({"a": 0, "c": 1}, [[0, 4], [7, 0]]),
                      World({"a": 0, "b": 1, "c": 2}, [[0, 1, 1], [1, 0, 1], [1, 1, 0]]),
                      World({"a": 0, "b": 1}, [[0, 4], [7, 0]], cart=[[0, 1], [2, 0]])]:
            raised(self, UnlikeWorlds, run, script, world)
            steps = trace(script, world)
            raised(self, UnlikeWorlds, next, steps)
        raised(self, UnlikeWorlds, run, Script(AB, (TURN,), layers=2), self.world)

    def test_too_many_places(self):
        flat = [[0 if x == y else 1 for y in range(8)] for x in range(8)]
        world = World({"a": 3}, flat)
        script = Script.read(["a"], "place b a 1 1 ; turn ; place c a 1 1 ; turn")
        error = raised(self, TooMany, run, script, world)
        self.assertEqual((error.subject, error.most), ("places", 9))
        steps = trace(script, world)
        self.assertEqual(next(steps)[1].size, 9)
        self.assertEqual(next(steps)[0], TURN)
        self.assertEqual(raised(self, TooMany, next, steps).subject, "places")
        self.assertEqual(run(script, world.part(0, 1, 2, 3, 4, 5, 6)).size, 9)

    def test_drawn(self):
        source = random.Random(2)
        for _ in range(80):
            names, layers = ABC[:source.randint(0, 3)], source.choice([1, 2])
            script = draw_script(source, names, layers, 6)
            world = draw_world(source, names, layers)
            present = world
            for step, behind in trace(script, world):
                self.assertNotIn(step[0], ("if", "repeat"))
                present = changed(present, step)
                self.assertEqual(behind, present)
            self.assertEqual(run(script, world), present)
            self.assertEqual((present.names(), present.size), (script.ends(), world.size + script.puts))


if __name__ == "__main__":
    unittest.main()
