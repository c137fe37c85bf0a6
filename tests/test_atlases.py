"""Promises [20] and [21], and the entry of missingmiles/atlases.py."""

import random
import unittest

from missingmiles import atlases
from missingmiles.atlases import Atlas
from missingmiles.comparing import are_alike
from missingmiles.errors import (DuplicateName, Full, InvalidCommand, InvalidFact, InvalidLimit, InvalidName, InvalidNumber,
                                 InvalidStep, InvalidText, MilesError, Missing, NothingLeft, TooMany, UnknownName,
                                 UnknownScript, UnlikeEnds, UnlikeScripts)
from missingmiles.scripts import Script
from tests.helpers import ODD_VALUES, raised
from tests.test_facts import far, least, most, wrong_facts
from tests.test_lists import SWOLLEN

AB = ["a", "b"]
WRONG_WORDS = [*ODD_VALUES, 0, "R", "r1", "r ", "ninechars", "a-b", "\n"]
ROAD, TURN = "road foot a b 2", "turn"


def state(atlas):
    """All that an atlas tells of itself."""
    scripts = {word: atlas.script(word) for word in atlas.words()}
    return (atlas.names(), atlas.layers, atlas.limit, atlas.words(), scripts, atlas.facts(), atlas.history(), atlas.kept(),
            atlas.computed, len(atlas), repr(atlas))


def put(word, text=""):
    return ("put", word, text)


class Begun(unittest.TestCase):
    def test_plain(self):
        atlas = Atlas(["b", "a"])
        self.assertEqual(state(atlas), (AB, 1, 8, [], {}, [], (0, 0), [], 0, 0, "Atlas(a b: 0 scripts)"))
        self.assertEqual((bool(atlas), atlas.busy, Atlas.MOST), (True, False, 12))
        atlas = Atlas(names=(), layers=2, limit=12)
        self.assertEqual((atlas.names(), atlas.layers, atlas.limit, repr(atlas)), ([], 2, 12, "Atlas(-: 0 scripts)"))

    def test_errors_in_their_order(self):
        for value in [*ODD_VALUES, 0, "abcdef", "A", "?1"]:
            self.assertEqual(raised(self, InvalidName, Atlas, ["a", value, "a", "b", "c"], layers=3, limit=0).given, value)
        self.assertEqual(raised(self, DuplicateName, Atlas, ["a", "b", "b", "a", "c"], layers=3, limit=0).name, "b")
        error = raised(self, TooMany, Atlas, ["a", "b", "c", "d"], layers=3, limit=0)
        self.assertEqual((error.subject, error.most), ("names", 3))
        for value in [*ODD_VALUES, 0, 3]:
            self.assertEqual(raised(self, InvalidNumber, Atlas, AB, layers=value, limit=0).given, value)
        for value in [*ODD_VALUES, 0, 13, -1, 10 ** 20, (8, 1)]:
            self.assertEqual(raised(self, InvalidLimit, Atlas, AB, limit=value).given, value)

    def test_names_are_copied(self):
        names = ["b", "a"]
        atlas = Atlas(names)
        names.clear()
        atlas.names().append("c")
        atlas.words().append("c")
        atlas.facts().append("c")
        atlas.kept().append("c")
        self.assertEqual(state(atlas), state(Atlas(AB)))


class Commands(unittest.TestCase):
    def setUp(self):
        self.atlas = Atlas(AB)
        self.atlas.apply(put("r", ROAD), put("t", TURN))

    def check_refused(self, error, *commands):
        before = state(self.atlas)
        found = raised(self, error, self.atlas.apply, *commands)
        self.assertEqual(state(self.atlas), before)
        self.assertIs(self.atlas.busy, False)
        return found

    def test_put(self):
        self.assertEqual(self.atlas.words(), ["r", "t"])
        self.assertEqual(self.atlas.script("r"), Script.read(AB, ROAD))
        self.assertIsNone(self.atlas.apply(put("aword", "")))
        self.assertEqual((self.atlas.words(), len(self.atlas)), (["aword", "r", "t"], 3))
        self.assertEqual(repr(self.atlas), "Atlas(a b: 3 scripts)")
        self.atlas.apply(put("r", "cap foot 1"))
        self.assertEqual((self.atlas.script("r").text(), len(self.atlas)), ("cap foot 1", 3))
        self.atlas.apply(put("abcdefgh", "round foot"))
        self.assertIn("abcdefgh", self.atlas)

    def test_put_errors(self):
        for value in WRONG_WORDS:
            self.assertEqual(self.check_refused(InvalidName, put(value, "wrong")).given, value)
        for value in [*ODD_VALUES, 0, "wrong"]:
            if value != "":
                self.assertEqual(self.check_refused(InvalidText, put("x", value)).word, 0)
        self.assertEqual(self.check_refused(InvalidText, put("x", "turn ; turns")).word, 2)
        self.assertEqual(self.check_refused(InvalidText, put("x", "cap foot")).word, 2)
        self.assertEqual(self.check_refused(UnknownName, put("x", "forget c")).name, "c")
        self.assertEqual(self.check_refused(InvalidStep, put("x", "turn ; cap cart 1")).path, (1,))
        self.assertEqual(self.check_refused(UnlikeEnds, put("x", "if foot a b 1 ( forget a ) else ( )")).path, (0,))
        self.assertEqual(self.check_refused(TooMany, put("x", " ; ".join(["turn"] * 13))).most, 12)
        self.assertEqual(self.check_refused(DuplicateName, put("x", "place b a 1 1")).name, "b")

    def test_layers_of_scripts(self):
        atlas = Atlas(AB, layers=2)
        atlas.apply(put("x", "ride cart a b 1"))
        self.assertEqual((atlas.script("x").layers, atlas.script("x").names()), (2, AB))

    def test_full(self):
        atlas = self.atlas = Atlas([], limit=2)
        atlas.apply(put("a"), put("b"))
        self.assertEqual(self.check_refused(Full, put("c", "wrong")).limit, 2)
        self.assertEqual(self.check_refused(Full, ("join", "c", "x", "y")).limit, 2)
        self.assertEqual(self.check_refused(InvalidName, put("C", "wrong")).given, "C")
        self.assertEqual(self.check_refused(InvalidName, ("join", None, "x", "y")).given, None)
        atlas.apply(put("a", "turn"), ("join", "b", "a", "a"))
        self.assertEqual((atlas.script("b").text(), len(atlas)), ("turn ; turn", 2))
        self.assertEqual(self.check_refused(InvalidText, put("a", "wrong")).word, 0)
        atlas.apply(("drop", "b"), put("c"))
        self.assertEqual(atlas.words(), ["a", "c"])
        self.assertEqual(self.check_refused(Full, put("d"), ("drop", "a")).limit, 2)

    def test_as_many_as_the_limit(self):
        for limit in (1, 2, 8, 12):
            self.atlas = atlas = Atlas([], limit=limit)
            for at in range(limit):
                atlas.apply(put("abcdefghijkl"[at]))
            self.assertEqual(len(atlas), limit)
            self.assertEqual(self.check_refused(Full, put("z")).limit, limit)
            atlas.apply(put("a", "turn"))

    def test_join(self):
        self.atlas.apply(("join", "both", "r", "t"))
        self.assertEqual(self.atlas.script("both"), Script.read(AB, f"{ROAD} ; {TURN}"))
        self.atlas.apply(("join", "r", "r", "r"))
        self.assertEqual(self.atlas.script("r").text(), f"{ROAD} ; {ROAD}")
        self.atlas.apply(put("f", "forget a"), ("join", "x", "t", "f"))
        self.assertEqual(self.atlas.script("x").ends(), ["b"])

    def test_join_errors(self):
        self.atlas.apply(put("f", "forget a"), put("l", " ; ".join(["turn"] * 7)))
        for value in WRONG_WORDS:
            self.assertEqual(self.check_refused(InvalidName, ("join", value, None, None)).given, value)
        for value in [*WRONG_WORDS, "x", "rr"]:
            self.assertEqual(self.check_refused(UnknownScript, ("join", "n", value, None)).word, value)
            self.assertEqual(self.check_refused(UnknownScript, ("join", "n", "f", value)).word, value)
        self.check_refused(UnlikeScripts, ("join", "n", "f", "t"))
        self.check_refused(UnlikeScripts, ("join", "f", "f", "f"))
        error = self.check_refused(TooMany, ("join", "n", "l", "l"))
        self.assertEqual((error.subject, error.most), ("steps", 12))

    def test_drop(self):
        self.atlas.apply(("drop", "r"))
        self.assertEqual(self.atlas.words(), ["t"])
        self.assertNotIn("r", self.atlas)
        for value in [*WRONG_WORDS, "r", "x"]:
            self.assertEqual(self.check_refused(UnknownScript, ("drop", value)).word, value)

    def test_facts(self):
        self.atlas.apply(("facts", most(3, far("a", "b")), least((-1, 2), far("b", "a", -2))))
        facts = [("most", (far("a", "b"),), (3, 1)), ("least", (far("b", "a", -2),), (-1, 2))]
        self.assertEqual(self.atlas.facts(), facts)
        self.atlas.apply(("facts", most(0)))
        self.assertEqual(self.atlas.facts(), [("most", (), (0, 1))])
        self.atlas.apply(("facts",))
        self.assertEqual(self.atlas.facts(), [])
        self.atlas.apply(("facts", most(1), most(1)), put("x", TURN))
        self.assertEqual(len(self.atlas.facts()), 2)

    def test_fact_errors(self):
        for value in wrong_facts():
            self.assertEqual(self.check_refused(InvalidFact, ("facts", value)).at, 0)
            self.assertEqual(self.check_refused(InvalidFact, ("facts", most(1), least(2), value, None)).at, 2)
        atlas = Atlas(AB, layers=2)
        atlas.apply(("facts", most(1, far("a", "b", layer="cart"))))
        self.assertEqual(len(atlas.facts()), 1)

    def test_values_that_are_no_commands(self):
        wrong = [*ODD_VALUES, 0, "put", "undo", ["put", "x", ""], ["drop", "r"], ["facts"], ("put",), ("put", "x"),
                 ("put", "x", "", ""), ("join", "x", "r"), ("join", "x", "r", "t", "t"), ("drop",), ("drop", "r", "t"),
                 ("Put", "x", ""), ("undo",), ("limit", 3), (None, "x", ""), (["put"], "x", ""), (0, "r"), ("", "r"),
                 (("put", "x", ""),), (True,), ("fact", most(1))]
        for value in wrong:
            for at in range(3):
                commands = [put("x"), ("drop", "x"), ("facts",)]
                commands[at] = value
                self.assertEqual(self.check_refused(InvalidCommand, *commands).at, at)
        # Ahead of everything else.
        self.assertEqual(self.check_refused(InvalidCommand, put("X"), ("drop", "x"), ("facts", None), None, 0).at, 3)

    def test_a_wrong_command_at_each_place(self):
        good = [put("x", TURN), ("join", "y", "x", "r"), ("drop", "t"), ("facts", most(1))]
        for at in range(5):
            for error, command in [(InvalidName, put("X")), (InvalidText, put("z", "x")), (UnknownScript, ("drop", "w")),
                                   (UnknownScript, ("join", "z", "w", "r")), (InvalidFact, ("facts", most(1), 1))]:
                self.check_refused(error, *good[:at], command, *good[at:])
        self.atlas.apply(*good)
        self.assertEqual((self.atlas.words(), self.atlas.history()), (["r", "x", "y"], (2, 0)))

    def test_commands_see_those_before_them(self):
        self.atlas.apply(put("x", TURN), ("join", "y", "x", "x"), ("drop", "x"), put("x", ROAD), ("join", "y", "y", "x"))
        self.assertEqual(self.atlas.script("y").text(), f"{TURN} ; {TURN} ; {ROAD}")
        self.check_refused(UnknownScript, ("drop", "x"), ("join", "z", "y", "x"))
        atlas = Atlas([], limit=1)
        atlas.apply(put("a"), ("drop", "a"), put("b"))
        self.assertEqual(atlas.words(), ["b"])

    def test_script(self):
        for value in [*WRONG_WORDS, "x"]:
            self.assertEqual(raised(self, UnknownScript, self.atlas.script, value).word, value)
            self.assertIs(value in self.atlas, False)
        self.assertIs("r" in self.atlas, True)
        self.assertEqual(self.atlas.script(word="r").text(), ROAD)


class History(unittest.TestCase):
    def setUp(self):
        self.atlas = Atlas(AB)

    def contents(self):
        return ({word: self.atlas.script(word).text() for word in self.atlas.words()}, self.atlas.facts())

    def test_one_call_is_one_step(self):
        self.atlas.apply(put("a"), put("b"), ("facts", most(1)))
        self.assertEqual(self.atlas.history(), (1, 0))
        self.assertIsNone(self.atlas.undo())
        self.assertEqual((self.contents(), self.atlas.history()), (({}, []), (0, 1)))
        self.assertIsNone(self.atlas.redo())
        self.assertEqual((self.contents(), self.atlas.history()), (({"a": "", "b": ""}, [("most", (), (1, 1))]), (1, 0)))

    def test_undone_and_redone(self):
        calls = [[put("a", TURN)], [put("b"), ("drop", "a")], [("facts", most(1))], [("facts",)], [("join", "c", "b", "b")]]
        seen = [self.contents()]
        for call in calls:
            self.assertIsNone(self.atlas.apply(*call))
            seen.append(self.contents())
        for many in range(5, 0, -1):
            self.assertEqual((self.contents(), self.atlas.history()), (seen[many], (many, 5 - many)))
            self.atlas.undo()
        self.assertEqual((self.contents(), self.atlas.history()), (seen[0], (0, 5)))
        raised(self, NothingLeft, self.atlas.undo)
        for many in range(1, 6):
            self.atlas.redo()
            self.assertEqual((self.contents(), self.atlas.history()), (seen[many], (many, 5 - many)))
        raised(self, NothingLeft, self.atlas.redo)

    def test_what_ends_redoing(self):
        self.atlas.apply(put("a"))
        self.atlas.apply(put("b"))
        self.atlas.undo()
        self.assertIsNone(self.atlas.apply())
        raised(self, InvalidCommand, self.atlas.apply, None)
        raised(self, UnknownScript, self.atlas.apply, put("c"), ("drop", "z"))
        self.atlas.set_limit(5)
        self.assertEqual(self.atlas.history(), (1, 1))
        self.atlas.redo()
        self.atlas.undo()
        self.atlas.apply(put("c"))
        self.assertEqual((self.atlas.words(), self.atlas.history()), (["a", "c"], (2, 0)))
        raised(self, NothingLeft, self.atlas.redo)

    def test_a_call_without_commands_is_no_step(self):
        self.atlas.apply()
        self.assertEqual(self.atlas.history(), (0, 0))
        raised(self, NothingLeft, self.atlas.undo)
        raised(self, NothingLeft, self.atlas.redo)

    def test_a_step_that_leaves_all_as_it_was(self):
        self.atlas.apply(put("a"))
        self.atlas.apply(put("a"))
        self.atlas.apply(put("b"), ("drop", "b"))
        self.assertEqual(self.atlas.history(), (3, 0))

    def test_equal_again(self):
        self.atlas.apply(put("a"), put("b", TURN))
        before = self.atlas.twin()
        self.atlas.apply(put("a", ROAD), ("facts", most(1)))
        self.assertNotEqual(self.atlas, before)
        self.atlas.undo()
        self.assertEqual(self.atlas, before)


class Limits(unittest.TestCase):
    def setUp(self):
        self.atlas = Atlas([], limit=4)
        self.atlas.apply(put("a"), put("b"), put("c"))

    def assign(self, value):
        self.atlas.limit = value

    def test_in_bounds(self):
        for value in range(3, 13):
            self.assertIsNone(self.atlas.set_limit(value))
            self.assertEqual(self.atlas.limit, value)
        for value in range(12, 2, -1):
            self.atlas.limit = value
            self.assertEqual(self.atlas.limit, value)
        self.atlas.set_limit(value=7)
        self.assertEqual(self.atlas.limit, 7)
        empty = Atlas([])
        empty.limit = 1
        self.assertEqual(empty.limit, 1)

    def test_out_of_bounds(self):
        for value in [*ODD_VALUES, 0, 1, 2, 13, -3, 10 ** 20, (5, 1), "5"]:
            for call in (self.assign, self.atlas.set_limit):
                self.assertEqual(raised(self, InvalidLimit, call, value).given, value)
            self.assertEqual(self.atlas.limit, 4)
        for value in (0, 13, True):
            raised(self, InvalidLimit, Atlas([]).set_limit, value)

    def test_no_part_of_the_steps(self):
        self.atlas.apply(put("d"))
        self.atlas.limit = 9
        self.atlas.undo()
        self.assertEqual((self.atlas.limit, self.atlas.history()), (9, (1, 1)))
        self.atlas.redo()
        self.assertEqual(self.atlas.limit, 9)

    def test_undo_and_redo_do_not_look_at_it(self):
        self.atlas.apply(("drop", "a"), ("drop", "b"))
        self.atlas.limit = 1
        self.atlas.undo()
        self.assertEqual((len(self.atlas), self.atlas.limit), (3, 1))
        # There are more than the limit now, which bars new words only.
        self.assertEqual(raised(self, Full, self.atlas.apply, put("d")).limit, 1)
        for value in (1, 2):
            raised(self, InvalidLimit, self.atlas.set_limit, value)
        self.atlas.apply(put("a", TURN))
        self.atlas.apply(("drop", "a"))
        raised(self, Full, self.atlas.apply, put("d"))
        self.atlas.set_limit(3)
        self.atlas.apply(put("d"))
        self.assertEqual(self.atlas.words(), ["b", "c", "d"])


class Kept(unittest.TestCase):
    def setUp(self):
        self.atlas = Atlas(AB)
        self.atlas.apply(put("r", ROAD), put("s", f"{ROAD} ; road foot a b 3"), put("t", TURN))

    def ask(self, one, other):
        answer = self.atlas.alike(one, other)
        expected = are_alike(self.atlas.script(one), self.atlas.script(other), facts=self.atlas.facts())
        self.assertIs(answer, expected)
        return answer

    def test_asked(self):
        self.assertIs(self.ask("r", "s"), True)
        self.assertEqual((self.atlas.kept(), self.atlas.computed), ([("r", "s")], 1))
        self.assertIs(self.ask("t", "r"), False)
        self.assertIs(self.ask("s", "r"), True)
        self.assertIs(self.ask("r", "r"), True)
        self.assertEqual(self.atlas.kept(), [("r", "r"), ("r", "s"), ("s", "r"), ("t", "r")])
        self.assertEqual(self.atlas.computed, 4)
        for pair in self.atlas.kept():
            self.ask(*pair)
        self.assertEqual((self.atlas.alike(one="r", other="s"), self.atlas.computed), (True, 4))

    def test_not_computed_again(self):
        calls = []

        def counted(one, other, *, facts=()):
            calls.append((one.text(), other.text()))
            return are_alike(one, other, facts=facts)

        original = atlases.are_alike
        atlases.are_alike = counted
        try:
            for _ in range(3):
                self.atlas.alike("r", "s")
            self.atlas.apply(put("r", ROAD))
            self.atlas.alike("r", "s")
            self.assertEqual(len(calls), 1)
            self.atlas.apply(put("r", TURN))
            self.atlas.alike("r", "s")
            self.assertEqual(len(calls), 2)
        finally:
            atlases.are_alike = original

    def test_errors(self):
        self.atlas.apply(put("f", "forget a"), put("w", SWOLLEN))
        for value in [*WRONG_WORDS, "x"]:
            self.assertEqual(raised(self, UnknownScript, self.atlas.alike, value, None).word, value)
            self.assertEqual(raised(self, UnknownScript, self.atlas.alike, "r", value).word, value)
        raised(self, UnlikeScripts, self.atlas.alike, "r", "f")
        raised(self, TooMany, self.atlas.alike, "w", "r")
        self.assertEqual((self.atlas.kept(), self.atlas.computed), ([], 0))

    def test_scripts_that_change(self):
        for pair in [("r", "s"), ("t", "t"), ("r", "t")]:
            self.ask(*pair)
        self.atlas.apply(put("s", ROAD))
        self.assertEqual((self.atlas.kept(), self.atlas.computed), ([("r", "t"), ("t", "t")], 3))
        self.atlas.apply(("drop", "t"))
        self.assertEqual(self.atlas.kept(), [])
        self.ask("r", "s")
        self.atlas.apply(put("x"), ("join", "y", "r", "s"))
        self.assertEqual((self.atlas.kept(), self.atlas.computed), ([("r", "s")], 4))

    def test_equal_behind_the_call(self):
        self.ask("r", "s")
        self.atlas.apply(put("r", TURN), ("drop", "s"), put("s", f"{ROAD} ; road foot a b 3"), put("r", ROAD))
        self.atlas.apply(("facts", most(1)), ("facts",))
        self.assertEqual((self.atlas.kept(), self.atlas.computed), ([("r", "s")], 1))
        # In two calls it is dropped behind the first one.
        self.atlas.apply(put("r", TURN))
        self.atlas.apply(put("r", ROAD))
        self.assertEqual((self.atlas.kept(), self.ask("r", "s"), self.atlas.computed), ([], True, 2))

    def test_facts_that_change(self):
        self.ask("r", "s")
        self.atlas.apply(("facts", most(1, far("a", "b")), least(0)))
        self.assertEqual(self.atlas.kept(), [])
        self.atlas.apply(put("e"))
        self.assertIs(self.ask("r", "e"), True)
        self.atlas.apply(("facts", most((1, 1), far("a", "b")), least(0)))
        self.assertEqual(self.atlas.kept(), [("r", "e")])
        # In another order they are not equal.
        self.atlas.apply(("facts", least(0), most(1, far("a", "b"))))
        self.assertEqual(self.atlas.kept(), [])
        self.assertIs(self.ask("r", "e"), True)
        self.atlas.apply(("facts",))
        self.assertIs(self.ask("r", "e"), False)

    def test_undo_and_redo(self):
        self.atlas.apply(put("x", TURN))
        self.ask("r", "s")
        self.ask("t", "x")
        self.atlas.undo()
        self.assertEqual((self.atlas.kept(), self.atlas.computed), ([("r", "s")], 2))
        self.atlas.redo()
        self.assertEqual(self.atlas.kept(), [("r", "s")])
        self.ask("t", "x")
        self.assertEqual(self.atlas.computed, 3)
        self.atlas.apply(("facts", most(1)))
        self.ask("r", "s")
        self.atlas.undo()
        self.assertEqual((self.atlas.kept(), self.atlas.computed), ([], 4))
        self.ask("r", "s")
        self.atlas.redo()
        self.assertEqual(self.atlas.kept(), [])
        self.atlas.undo()
        self.atlas.undo()
        self.atlas.undo()
        self.assertEqual((self.atlas.words(), self.atlas.kept()), ([], []))

    def test_calls_that_change_nothing(self):
        self.ask("r", "s")
        self.ask("t", "s")
        pairs = self.atlas.kept()
        self.atlas.apply()
        self.atlas.set_limit(3)
        for call, args in [(self.atlas.apply, (None,)), (self.atlas.apply, (put("s"), ("drop", "x"))),
                           (self.atlas.apply, (put("x"),)), (self.atlas.redo, ()), (self.atlas.alike, ("r", "x")),
                           (self.atlas.apply, (("facts", None),)), (self.atlas.set_limit, (2,))]:
            with self.assertRaises((MilesError, Missing, NothingLeft)):
                call(*args)
            self.assertEqual((self.atlas.kept(), self.atlas.computed), (pairs, 2))
        for _ in range(2):
            self.ask("r", "s")
        self.assertEqual(self.atlas.computed, 2)


class Busy(unittest.TestCase):
    def test_while_commands_are_done(self):
        atlas, seen = Atlas(AB), []
        original = atlases.shelf_behind

        def watched(*args):
            seen.append(atlas.busy)
            return original(*args)

        atlases.shelf_behind = watched
        try:
            atlas.apply(put("a"), put("b"))
            raised(self, UnknownScript, atlas.apply, put("c"), ("drop", "z"))
        finally:
            atlases.shelf_behind = original
        self.assertEqual((seen, atlas.busy), ([True] * 4, False))

    def test_behind_each_call(self):
        atlas = Atlas(AB)
        for call, args in [(atlas.apply, ()), (atlas.apply, (put("a"),)), (atlas.apply, (None,)),
                           (atlas.apply, (put("A"),)), (atlas.undo, ()), (atlas.undo, ()), (atlas.redo, ()),
                           (atlas.redo, ()), (atlas.alike, ("a", "a")), (atlas.alike, ("a", "z")), (atlas.twin, ())]:
            try:
                call(*args)
            except (MilesError, Missing, NothingLeft):
                pass
            self.assertIs(atlas.busy, False)


class Equal(unittest.TestCase):
    def atlas(self, *commands, names=("a", "b"), layers=1, limit=8):
        atlas = Atlas(names, layers=layers, limit=limit)
        atlas.apply(*commands)
        return atlas

    def test_equal(self):
        one = self.atlas(put("x", TURN), put("y", "cap foot 5"), ("facts", most(1), least(0)))
        other = self.atlas(("facts", most((1, 1)), least((0, 1))), put("y", "cap foot 5"), names=["b", "a"], limit=3)
        self.assertNotEqual(one, other)
        other.apply(put("x", ROAD))
        self.assertNotEqual(one, other)
        other.apply(put("x", TURN))
        self.assertEqual(one, other)
        self.assertEqual(other.alike("x", "y"), False)
        self.assertEqual(one, other)
        self.assertIs(one == other, True)

    def test_unlike(self):
        one = self.atlas(put("x"), ("facts", most(1), least(0)))
        for other in [self.atlas(put("x"), ("facts", least(0), most(1))), self.atlas(put("x"), ("facts", most(1))),
                      self.atlas(put("x", TURN), ("facts", most(1), least(0))), self.atlas(("facts", most(1), least(0))),
                      self.atlas(put("y"), ("facts", most(1), least(0))),
                      self.atlas(put("x"), ("facts", most(1), least(0)), names=["a"]),
                      self.atlas(put("x"), ("facts", most(1), least(0)), layers=2)]:
            self.assertFalse(one == other)
            self.assertTrue(one != other)
        self.assertFalse(Atlas([]) == Atlas([], layers=2))
        for value in [*ODD_VALUES, 0, one.script("x"), "Atlas(a b: 1 scripts)"]:
            self.assertFalse(one == value)


class Twins(unittest.TestCase):
    def setUp(self):
        self.atlas = Atlas(AB, limit=5)
        self.atlas.apply(put("r", ROAD), put("t", TURN))
        self.atlas.apply(("facts", most(1)))
        self.atlas.apply(put("x"))
        self.atlas.undo()
        self.atlas.alike("r", "t")

    def test_equal_at_first(self):
        twin = self.atlas.twin()
        self.assertIsInstance(twin, Atlas)
        self.assertEqual((state(twin), twin.busy), (state(self.atlas), False))
        self.assertEqual(twin, self.atlas)
        self.assertEqual((twin.history(), twin.kept(), twin.computed, twin.limit), ((2, 1), [("r", "t")], 1, 5))

    def test_layers(self):
        for layers in (1, 2):
            atlas = Atlas(["a"], layers=layers)
            self.assertEqual((atlas.twin().layers, atlas.twin() == atlas), (layers, True))
            atlas.twin().apply(put("x", "cap foot 1"))
            self.assertEqual(len(atlas), 0)
        twin = atlas.twin()
        twin.apply(put("x", "cap cart 1"))
        self.assertEqual(twin.words(), ["x"])

    def test_they_go_on_apart(self):
        twin = self.atlas.twin()
        before = state(self.atlas)
        twin.redo()
        twin.limit = 3
        twin.alike("x", "t")
        twin.apply(("drop", "r"), ("facts",))
        self.assertEqual(state(self.atlas), before)
        self.atlas.undo()
        self.atlas.undo()
        self.assertEqual((len(self.atlas), twin.words(), twin.history()), (0, ["t", "x"], (4, 0)))
        self.assertEqual((self.atlas.computed, twin.computed, twin.kept()), (1, 2, []))
        for _ in range(4):
            twin.undo()
        raised(self, NothingLeft, twin.undo)
        self.assertEqual((self.atlas.history(), twin.history()), ((0, 3), (0, 4)))
        self.atlas.redo()
        self.assertEqual((self.atlas.words(), twin.words()), (["r", "t"], []))

    def test_twins_of_more_than_the_limit(self):
        self.atlas.apply(("drop", "r"), ("drop", "t"))
        self.atlas.limit = 1
        self.atlas.undo()
        twin = self.atlas.twin()
        self.assertEqual((state(twin), len(twin), twin.limit), (state(self.atlas), 2, 1))


class Drawn(unittest.TestCase):
    """Atlases of drawn calls, held beside lists of what they held behind each one."""

    def test_drawn(self):
        source = random.Random(9)
        texts = ["", TURN, ROAD, "turn ; turn", f"{ROAD} ; cap foot 2", "forget a", "wrong", "cap cart 1"]
        for _ in range(25):
            atlas, past, undone, kept = Atlas(AB, limit=3), [({}, [])], [], {}
            for _ in range(30):
                word, before = source.choice(["apply"] * 4 + ["undo", "redo", "ask", "ask"]), past[-1]
                try:
                    if word == "ask":
                        pair = (source.choice("xyz"), source.choice("xyz"))
                        answer = atlas.alike(*pair)
                        self.assertEqual(kept.setdefault(pair, answer), answer)
                    elif word == "apply":
                        self.draw_call(source, atlas, texts)
                        past.append(self.held(atlas))
                        undone.clear()
                    elif word == "undo":
                        atlas.undo()
                        undone.append(past.pop())
                    else:
                        atlas.redo()
                        past.append(undone.pop())
                except (MilesError, Missing, NothingLeft):
                    pass
                self.assertEqual((self.held(atlas), atlas.history()), (past[-1], (len(past) - 1, len(undone))))
                kept = {pair: kept[pair] for pair in kept if before[1] == past[-1][1] and all(
                    before[0].get(side) is not None and before[0].get(side) == past[-1][0].get(side) for side in pair)}
                self.assertEqual(atlas.kept(), sorted(kept))

    def held(self, atlas):
        return ({word: atlas.script(word).text() for word in atlas.words()}, atlas.facts())

    def draw_call(self, source, atlas, texts):
        commands = []
        for _ in range(source.randint(1, 2)):
            one, other, third = source.choices("xyz", k=3)
            commands.append(source.choice([put(one, source.choice(texts)), put(one, source.choice(texts)),
                                           ("join", one, other, third), ("drop", one),
                                           ("facts", *source.sample([most(1), most(2, far("a", "b"))], 1))]))
        atlas.apply(*commands)


if __name__ == "__main__":
    unittest.main()
