"""Promise [22], and the entry of missingmiles/pages.py."""

import random
import unittest

from missingmiles.atlases import Atlas
from missingmiles.errors import Full, InvalidPage, MilesError, Missing
from missingmiles.pages import read_page, write_page
from tests.drawing import draw_facts, draw_script
from tests.helpers import ODD_VALUES, raised
from tests.test_facts import far, least, most

PAGE = """atlas 2 a b
fact most 4 1 foot a b -2 cart b a
fact least -1/2
fact most 0 9 foot b a
atlas = turn
e =
fact = cap cart 1/2 ; if foot a b 2 ( turn ) else ( )
x = repeat 2 ( road foot a b 3 )
"""


def atlas_of_page():
    atlas = Atlas(["b", "a"], layers=2, limit=5)
    atlas.apply(("put", "x", "repeat 2 ( road foot a b 3 )"), ("put", "e", ""), ("put", "atlas", "turn"),
                ("put", "fact", "cap cart 1/2 ; if foot a b 2 ( turn ) else ( )"))
    atlas.apply(("facts", most(4, far("a", "b"), far("b", "a", -2, "cart")), least((-1, 2)), most(0, far("b", "a", 9))))
    return atlas


class Written(unittest.TestCase):
    def test_document(self):
        atlas = Atlas(["a"])
        atlas.apply(("put", "x", "turn"), ("facts", ("least", (), (-1, 2))))
        self.assertEqual(write_page(atlas), "atlas 1 a\nfact least -1/2\nx = turn\n")

    def test_plain(self):
        self.assertEqual(write_page(atlas_of_page()), PAGE)
        self.assertEqual(write_page(atlas=Atlas([])), "atlas 1\n")
        self.assertEqual(write_page(Atlas(["c", "a", "b"], layers=2)), "atlas 2 a b c\n")
        atlas = Atlas([])
        atlas.apply(("put", "x", ""))
        self.assertEqual(write_page(atlas), "atlas 1\nx =\n")

    def test_nothing_is_changed(self):
        atlas = atlas_of_page()
        atlas.alike("e", "x")
        write_page(atlas)
        self.assertEqual((atlas.history(), atlas.kept(), atlas.computed), ((2, 0), [("e", "x")], 1))


class Read(unittest.TestCase):
    def test_plain(self):
        atlas = read_page(PAGE)
        self.assertEqual(atlas, atlas_of_page())
        self.assertEqual((atlas.limit, atlas.history(), atlas.kept(), atlas.computed), (12, (0, 0), [], 0))
        self.assertEqual(atlas.facts(), atlas_of_page().facts())
        self.assertEqual(write_page(atlas), PAGE)
        self.assertIs(atlas.busy, False)
        self.assertEqual(read_page(text="atlas 1\n"), Atlas([]))
        for page in ["atlas 1\n", "atlas 2\n", "atlas 1 a\n", "atlas 2 aaaaa b zz\nfact most 1\nabcdefgh =\n"]:
            self.assertEqual(write_page(read_page(page)), page)

    def test_what_is_read_goes_on(self):
        atlas = read_page(PAGE)
        atlas.apply(("drop", "fact"), ("put", "y", "turn"))
        self.assertIs(atlas.alike("y", "atlas"), True)
        self.assertEqual(atlas.history(), (1, 0))
        atlas.undo()
        self.assertEqual(atlas, atlas_of_page())

    def test_as_many_scripts_as_there_may_be(self):
        lines = [f"{word} = turn\n" for word in "abcdefghijkl"]
        atlas = read_page("atlas 1\n" + "".join(lines))
        self.assertEqual((len(atlas), atlas.limit), (12, 12))
        raised(self, Full, atlas.apply, ("put", "m", ""))
        error = raised(self, InvalidPage, read_page, "atlas 1\nfact most 1\n" + "".join(lines) + "m =\n")
        self.assertEqual(error.line, 14)

    def test_long_numbers(self):
        for figures, fits in [(30, True), (60, True), (61, False)]:
            page = f"atlas 1 a\nfact most {'7' * figures}/{'1' + '0' * (figures - 1)}\nx = cap foot {'9' * figures}\n"
            if fits:
                self.assertEqual(write_page(read_page(page)), page)
            else:
                self.assertEqual(raised(self, InvalidPage, read_page, page).line, 1)


class Wrong(unittest.TestCase):
    def check(self, text, line):
        self.assertEqual(raised(self, InvalidPage, read_page, text).line, line, text)

    def test_ends(self):
        for value in ODD_VALUES:
            self.check(value, 0)
        for value in [0, 7, ["atlas 1\n"], ("atlas 1\n",), "", "atlas 1", "x"]:
            self.check(value, 0)
        self.check("atlas 1\nx", 1)
        self.check("wrong\nwrong\nx", 2)
        self.check(PAGE[:-1], 7)
        self.check(PAGE + " ", 8)
        self.check(PAGE + "y = turn", 8)

    def test_first_line(self):
        for line in ["", " ", "atlas", "Atlas 1", "atlas ", "atlas 0", "atlas 3", "atlas 01", "atlas 1 ", " atlas 1",
                     "atlas  1", "atlas 1 A", "atlas 1 abcdef", "atlas 1 b a", "atlas 1 a a", "atlas 1 a b c d",
                     "atlas 1  a", "atlas 1 a ", "atlas 1 ?1", "atlas a", "atlas one", "atlas 1/1", "atlas -1", "atlas =",
                     "atlas = turn", "x = turn", "fact most 1", "atlas a 1", "atlas 1\ta"]:
            self.check(line + "\n", 0)
            self.check(f"{line}\nwrong\n", 0)
        self.check("\n", 0)
        self.check("\n\n", 0)

    def test_lines_of_facts(self):
        for line in ["fact", "fact ", "fact most", "fact most ", "fact 1", "fact Most 1", "fact equal 1", "fact most x",
                     "fact most 1 ", "fact  most 1", " fact most 1", "fact most 2/2", "fact most 01", "fact most -0",
                     "fact most 1.5", "fact most 1/0", "fact most 1 1", "fact most 1 1 foot", "fact most 1 1 foot a",
                     "fact most 1 1 foot a b ", "fact most 1 1 foot a b 1", "fact most 1 1 foot a b 1 foot b",
                     "fact most 1 0 foot a b", "fact most 1 10 foot a b", "fact most 1 -10 foot a b",
                     "fact most 1 01 foot a b", "fact most 1 +1 foot a b", "fact most 1 1/2 foot a b",
                     "fact most 1 x foot a b", "fact most 1 1 cart a b", "fact most 1 1 rail a b",
                     "fact most 1 1 foot a a", "fact most 1 1 foot a c", "fact most 1 1 foot ?1 b",
                     "fact most 1 1 foot a b 2 foot a b", "fact most 1 foot a b 1", "fact most 1 1 a b foot",
                     "facts most 1", "Fact most 1", "most 1", "fact least"]:
            self.check(f"atlas 1 a b\n{line}\n", 1)
            self.check(f"atlas 1 a b\nfact most 1\n{line}\nx = wrong\n", 2)
        self.assertEqual(len(read_page("atlas 1 a b\nfact most 1\nfact most 1\n").facts()), 2)

    def test_lines_of_scripts(self):
        for line in ["", " ", "x", "x=", "x = ", "x =  turn", "x  = turn", " x = turn", "x = turn ", "= turn", " = turn",
                     "X = turn", "x1 = turn", "abcdefghi = turn", "x : turn", "x = turns", "x = turn ;", "x = turn; turn",
                     "x = turn ;  turn", "x = cap foot 02", "x = cap foot 2/2", "x = cap cart 1", "x = forget c",
                     "x = place b a 1 1", "x = if foot a b 1 ( forget a ) else ( )", "x = " + " ; ".join(["turn"] * 13),
                     "x == turn", "x = = turn", "=", "x = (", "x = repeat 4 ( )", "turn", "x = same a a"]:
            self.check(f"atlas 1 a b\n{line}\n", 1)
            self.check(f"atlas 1 a b\nfact most 1\na =\n{line}\nfact most 1\n", 3)

    def test_order(self):
        self.check("atlas 1 a\nx =\nfact most 1\n", 2)
        self.check("atlas 1 a\nfact = turn\nfact most 1\n", 2)
        self.check("atlas 1 a\nb =\na =\n", 2)
        self.check("atlas 1 a\na =\na =\n", 2)
        self.check("atlas 1 a\na =\nc =\nb =\nd =\n", 3)
        self.check("atlas 1 a\natlas 1 a\n", 1)
        self.check("fact most 1\natlas 1 a\n", 0)
        self.check("atlas 1 a\n\nx =\n", 1)
        self.check("atlas 1 a\nx =\n\n", 2)
        self.check("atlas 1 a\nab =\nb =\naa =\n", 3)

    def test_each_line_of_a_page(self):
        lines = PAGE.split("\n")[:-1]
        for at, line in enumerate(lines):
            for wrong in [line + " ", " " + line, line.upper(), line + " X", "wrong", line[:-1] + "\t"]:
                self.check("\n".join([*lines[:at], wrong, *lines[at + 1:], ""]), at)
            rest = "\n".join([*lines[:at], *lines[at + 1:], ""])
            if at == 0:
                self.check(rest, 0)
            else:
                self.assertEqual(write_page(read_page(rest)), rest)

    def test_thirteenth_script(self):
        lines = "".join([f"{word} =\n" for word in "abcdefghijkl"])
        self.check(f"atlas 1\n{lines}m =\nn = wrong\n", 13)
        self.check(f"atlas 1\n{lines}m = wrong\nn =\n", 13)
        self.check(f"atlas 1\n{lines}l =\n", 13)


class Drawn(unittest.TestCase):
    def test_there_and_back(self):
        source = random.Random(31)
        for _ in range(60):
            names, layers = ["a", "b", "c"][:source.randint(0, 3)], source.choice([1, 2])
            atlas = Atlas(names, layers=layers, limit=12)
            atlas.apply(("facts", *draw_facts(source, names, layers)))
            for word in source.sample(["x", "yy", "zzz", "atlas", "fact", "abcdefgh"], source.randint(0, 6)):
                atlas.apply(("put", word, draw_script(source, names, layers, 5).text()))
            page = write_page(atlas)
            found = read_page(page)
            self.assertEqual((found, write_page(found), found.layers), (atlas, page, layers))
            self.check_changed(source, page)

    def check_changed(self, source, page):
        """A page with a character changed is refused, or it is the page of another atlas."""
        for _ in range(12):
            at = source.randrange(len(page))
            text = page[:at] + source.choice(["", " ", "a", "1", "\n", "-", "/", "=", page[at] * 2]) + page[at + 1:]
            try:
                self.assertEqual(write_page(read_page(text)), text)
            except InvalidPage as error:
                self.assertTrue(0 <= error.line <= text.count("\n"))
            except (MilesError, Missing) as error:
                self.fail(repr(error))


if __name__ == "__main__":
    unittest.main()
