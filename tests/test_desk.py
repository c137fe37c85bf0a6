"""Promise [23], and the entry of missingmiles/desk.py."""

import unittest

from missingmiles.atlases import Atlas
from missingmiles.desk import Desk
from missingmiles.pages import read_page, write_page
from tests.test_facts import far, most
from tests.test_lists import SWOLLEN

AB = ["a", "b"]
TESTED = "if foot a b 1 ( turn ) else ( )"


class Lines(unittest.TestCase):
    def setUp(self):
        self.atlas = Atlas(AB)
        self.desk = Desk(self.atlas)

    def check(self, line, answer):
        many = len(self.desk)
        self.assertEqual(self.desk.say(line), answer, line)
        self.assertEqual((len(self.desk), self.desk.log()[-1]), (many + 1, (line, answer)))

    def check_unchanged(self, line, answer):
        """An answer that changes nothing."""
        page, history = write_page(self.atlas), self.atlas.history()
        self.check(line, answer)
        self.assertEqual((write_page(self.atlas), self.atlas.history(), self.atlas.busy), (page, history, False))

    def test_document(self):
        desk = self.desk
        self.assertEqual([desk("put r road foot a b 2"), desk("put e"), desk("alike r e"), desk("longer r e"),
                          desk("forms r a b"), desk("over r e")],
                         ["done", "done", "differ", "never", "2 | foot a b", "0"])

    def test_words(self):
        self.check_unchanged("words", "none")
        self.check("put t turn", "done")
        self.check_unchanged("words", "t")
        self.check("put abcdefgh", "done")
        self.check_unchanged("words", "abcdefgh t")

    def test_show(self):
        self.check("put e", "done")
        self.check("put r road foot a b 2 ; turn", "done")
        self.check_unchanged("show e", "nothing")
        self.check_unchanged("show r", "road foot a b 2 ; turn")
        self.check_unchanged("show x", "error UnknownScript")
        self.check_unchanged("show R", "error UnknownScript")
        self.check_unchanged("show ;", "error UnknownScript")

    def test_ends(self):
        self.check("put e", "done")
        self.check("put p place c b 1 1 ; forget a", "done")
        self.check("put f forget b ; forget a", "done")
        self.check_unchanged("ends e", "a b")
        self.check_unchanged("ends p", "b c")
        self.check_unchanged("ends f", "none")
        self.check_unchanged("ends x", "error UnknownScript")

    def test_alike(self):
        self.check("put one road foot a b 3", "done")
        self.check("put other", "done")
        self.check_unchanged("alike one other", "differ")
        self.check_unchanged("alike one one", "alike")
        self.assertEqual((self.atlas.kept(), self.atlas.computed), ([("one", "one"), ("one", "other")], 2))
        self.check_unchanged("alike one other", "differ")
        self.assertEqual(self.atlas.computed, 2)
        self.atlas.apply(("facts", most(3, far("a", "b"))))
        self.check_unchanged("alike one other", "alike")
        self.assertEqual(self.atlas.alike("one", "other"), True)
        self.assertEqual(self.atlas.computed, 3)
        self.check("put f forget a", "done")
        self.check_unchanged("alike one f", "error UnlikeScripts")
        self.check_unchanged("alike x one", "error UnknownScript")
        self.check_unchanged("alike one x", "error UnknownScript")
        self.check(f"put w {SWOLLEN}", "done")
        self.check_unchanged("alike one w", "error TooMany")

    def test_longer(self):
        self.check("put one", "done")
        self.check("put other road foot a b 3", "done")
        self.check(f"put t {TESTED}", "done")
        self.check_unchanged("longer one other", "sometimes")
        self.check_unchanged("longer other one", "never")
        self.check_unchanged("longer t one", "sometimes")
        self.atlas.apply(("facts", most(3, far("a", "b"))))
        self.check_unchanged("longer one other", "never")
        self.assertEqual((self.atlas.kept(), self.atlas.computed), ([], 0))
        self.check("put f forget a", "done")
        self.check_unchanged("longer one f", "error UnlikeScripts")
        self.check_unchanged("longer f x", "error UnknownScript")
        self.check_unchanged("longer x f", "error UnknownScript")

    def test_over(self):
        self.check("put one cap foot 7/2", "done")
        self.check("put other cap foot 2", "done")
        self.check("put e", "done")
        self.check_unchanged("over one other", "3/2")
        self.check_unchanged("over other one", "0")
        self.check_unchanged("over e one", "endless")
        self.check_unchanged("over one e", "0")
        # The facts are not looked at.
        self.atlas.apply(("facts", most(-1)))
        self.check_unchanged("over one other", "3/2")
        self.check_unchanged("over e one", "endless")
        self.check(f"put t {TESTED}", "done")
        self.check("put f forget a", "done")
        self.check_unchanged("over one t", "error HasTests")
        self.check_unchanged("over t f", "error UnlikeScripts")
        self.check_unchanged("over x t", "error UnknownScript")
        self.check_unchanged("over t x", "error UnknownScript")

    def test_forms(self):
        self.check("put r road foot a b 2", "done")
        self.check("put p place c a 1 2", "done")
        self.check(f"put t {TESTED}", "done")
        for line, answer in [("r ?1 ?2", "foot ?1 ?2 | foot b ?2 + foot ?1 a + 2"), ("r a b foot", "2 | foot a b"),
                             ("r b a", "foot b a"), ("p +1 b", "foot a b + 2"), ("r a ?1", "foot a ?1 | foot b ?1 + 2"),
                             ("r a b cart", "error InvalidLayer"), ("r a b rail", "error InvalidLayer"),
                             ("r a c", "error InvalidPoint"), ("r a a", "error InvalidPoint"),
                             ("r a ?2", "error InvalidPoint"), ("r +1 a", "error InvalidPoint"),
                             ("r ; |", "error InvalidPoint"), ("t a a rail", "error HasTests"),
                             ("x a b rail", "error UnknownScript")]:
            self.check_unchanged(f"forms {line}", answer)
        desk = Desk(Atlas(AB, layers=2))
        self.assertEqual([desk("put r ride cart a b 1"), desk("forms r a b cart"), desk("forms r a b foot"),
                          desk("forms r a b")], ["done", "cart a b | foot a b + 1", "foot a b", "foot a b"])

    def test_put(self):
        self.check("put r", "done")
        self.assertEqual(self.atlas.script("r").text(), "")
        self.check(f"put r {TESTED} ; cap foot 1/2", "done")
        self.assertEqual(self.atlas.script("r").text(), f"{TESTED} ; cap foot 1/2")
        self.assertEqual(self.atlas.history(), (2, 0))
        for line, code in [("put R turn", "InvalidName"), ("put r1", "InvalidName"), ("put ninechars wrong", "InvalidName"),
                           ("put x wrong", "InvalidText"), ("put x turn ;", "InvalidText"), ("put x ;", "InvalidText"),
                           ("put x forget c", "UnknownName"), ("put x cap cart 1", "InvalidStep"),
                           ("put x " + " ; ".join(["turn"] * 13), "TooMany"), ("put x place a b 1 1", "DuplicateName"),
                           ("put x if foot a b 1 ( forget a ) else ( )", "UnlikeEnds")]:
            self.check_unchanged(line, f"error {code}")
        self.atlas.limit = 1
        self.check_unchanged("put x", "error Full")
        self.check("put r turn", "done")

    def test_join(self):
        self.check("put r turn", "done")
        self.check("put f forget a", "done")
        self.check("join both r f", "done")
        self.check("show both", "turn ; forget a")
        for line, code in [("join R r f", "InvalidName"), ("join x f r", "UnlikeScripts"), ("join x y r", "UnknownScript"),
                           ("join x r y", "UnknownScript")]:
            self.check_unchanged(line, f"error {code}")
        self.atlas.limit = 3
        self.check_unchanged("join x y z", "error Full")
        self.check("join r r r", "done")

    def test_drop_undo_redo(self):
        self.check("put r turn", "done")
        self.check("drop r", "done")
        self.check_unchanged("drop r", "error UnknownScript")
        self.check_unchanged("redo", "error NothingLeft")
        self.check("undo", "done")
        self.check("words", "r")
        self.check("redo", "done")
        self.check("words", "none")
        self.check("undo", "done")
        self.check("undo", "done")
        self.check_unchanged("undo", "error NothingLeft")
        self.assertEqual(self.atlas.history(), (0, 2))

    def test_unknown(self):
        self.check("put r turn", "done")
        good = ["words", "show r", "ends r", "alike r r", "longer r r", "over r r", "forms r a b", "forms r a b foot",
                "join r r r", "drop r", "undo", "redo", "put r", "put r turn"]
        for line in good:
            words = line.split(" ")
            wrong = [line + " ", " " + line, line + "\n", "\n" + line, line.upper(), line.capitalize(), line + "\nwords",
                     "x " + line]
            wrong.extend([line.replace(" ", change, 1) for change in ("  ", "\n", "\t") if " " in line])
            if words[0] != "put":
                wrong.append(line + " x" * (1 + (line == "forms r a b")))
            if words != ["put", "r", "turn"] and line != "forms r a b foot" and len(words) > 1:
                wrong.append(" ".join(words[:-1]))
            for other in wrong:
                self.check_unchanged(other, "unknown")
        for line in ["", " ", "  ", "\n", "word", "show", "put", "put ", "put  r", "put r ", "put r  turn", "put r turn ",
                     "put r turn\n", "facts", "facts most 1", "limit 3", "help", "unknown", "done", "wordsx", "undo 1",
                     "redo r", "words r", "say words", "forms r a", "forms r a b foot foot", "join r r", "alike r",
                     "error NothingLeft", "PUT r", "0", "?"]:
            self.check_unchanged(line, "unknown")

    def test_wrong_lines_and_errors_are_logged(self):
        lines = [("", "unknown"), ("undo", "error NothingLeft"), ("words", "none"), ("put x", "done")]
        for line, answer in lines:
            self.check(line, answer)
        self.assertEqual((self.desk.log(), len(self.desk), repr(self.desk)), (lines, 4, "Desk(4 lines)"))


class Desks(unittest.TestCase):
    def test_plain(self):
        atlas = Atlas(AB)
        desk = Desk(atlas=atlas)
        self.assertIs(desk.atlas, atlas)
        self.assertEqual((desk.log(), len(desk), repr(desk), bool(desk)), ([], 0, "Desk(0 lines)", True))
        self.assertEqual(desk.say(line="put x"), "done")
        self.assertEqual(desk("words"), "x")
        self.assertEqual((len(desk), repr(desk), bool(desk)), (2, "Desk(2 lines)", True))
        self.assertEqual(atlas.words(), ["x"])

    def test_the_very_atlas(self):
        atlas = Atlas(AB)
        one, other = Desk(atlas), Desk(atlas)
        one("put x turn")
        atlas.apply(("put", "y", ""))
        self.assertEqual((other("words"), one("undo"), other("words"), atlas.words()), ("x y", "done", "x", ["x"]))
        self.assertEqual((one.log(), other.log()), ([("put x turn", "done"), ("undo", "done")],
                                                    [("words", "x y"), ("words", "x")]))

    def test_lists_are_new(self):
        desk = Desk(Atlas(AB))
        desk("words")
        desk.log().clear()
        desk.log().append(None)
        self.assertEqual((desk.log(), len(desk)), ([("words", "none")], 1))

    def test_an_atlas_that_was_read(self):
        desk = Desk(read_page("atlas 2 a b\nfact most 3 1 foot a b\ne =\nr = road foot a b 3\n"))
        self.assertEqual([desk("alike r e"), desk("longer e r"), desk("over e r"), desk("undo"), desk("put s"),
                          desk("alike s e")], ["alike", "never", "endless", "error NothingLeft", "done", "alike"])


if __name__ == "__main__":
    unittest.main()
