"""Promise [9], what [7] says of the forms of steps, and the entry of missingmiles/texts.py."""

import unittest
from random import Random

from missingmiles.errors import InvalidText
from missingmiles.ratios import ratio, ratio_text
from missingmiles.texts import read_steps, text_of
from tests.helpers import ODD_VALUES, raised

TURN = ("turn",)
PAIRS = [
    ((), ""),
    ((TURN,), "turn"),
    ((TURN, TURN), "turn ; turn"),
    ((("road", "foot", "a", "b", (1, 2)),), "road foot a b 1/2"),
    ((("ride", "cart", "ab", "ab", (0, 1)),), "ride cart ab ab 0"),
    ((("place", "p", "a", (3, 1), (5, 7)),), "place p a 3 5/7"),
    ((("same", "a", "b"), ("forget", "a")), "same a b ; forget a"),
    ((("cap", "foot", (0, 1)), ("scale", "cart", (1, 3)), ("round", "foot")), "cap foot 0 ; scale cart 1/3 ; round foot"),
    ((("if", "foot", "a", "b", (2, 1), (("cap", "foot", (1, 1)),), ()),), "if foot a b 2 ( cap foot 1 ) else ( )"),
    ((("if", "cart", "a", "b", (0, 1), (), (TURN, TURN)), TURN), "if cart a b 0 ( ) else ( turn ; turn ) ; turn"),
    ((("repeat", 3, ()),), "repeat 3 ( )"),
    ((("repeat", 1, (("repeat", 2, (TURN,)), TURN)),), "repeat 1 ( repeat 2 ( turn ) ; turn )"),
    ((("forget", "turn"), ("same", "same", "if"), ("place", "else", "road", (1, 1), (1, 1))),
     "forget turn ; same same if ; place else road 1 1"),
]


class Texts(unittest.TestCase):
    def test_pairs(self):
        for steps, text in PAIRS:
            self.assertEqual(text_of(steps), text)
            self.assertEqual(read_steps(text), steps)
            self.assertEqual(text_of(steps=steps), text)
            self.assertEqual(read_steps(text=text), steps)

    def test_numbers_in_the_place_of_ratios(self):
        steps = (("road", "foot", "a", "b", 2), ("place", "p", "a", 0, 10), ("if", "foot", "a", "b", 7, (), ()))
        text = "road foot a b 2 ; place p a 0 10 ; if foot a b 7 ( ) else ( )"
        self.assertEqual(text_of(steps), text)
        self.assertEqual(read_steps(text), (("road", "foot", "a", "b", (2, 1)), ("place", "p", "a", (0, 1), (10, 1)),
                                            ("if", "foot", "a", "b", (7, 1), (), ())))

    def test_tuples_and_numbers(self):
        (step,) = read_steps("repeat 2 ( cap foot 3 )")
        self.assertIs(step[1].__class__, int)
        self.assertIs(step[2].__class__, tuple)
        self.assertEqual(read_steps("cap foot 3")[0][2], (3, 1))

    def test_very_long_ratios(self):
        self.assertEqual(text_of((("cap", "foot", 10 ** 5000),)), "cap foot 1" + "0" * 5000)

    def test_long_texts(self):
        text = " ; ".join(["turn"] * 400)
        self.assertEqual(read_steps(text), (TURN,) * 400)
        self.assertEqual(text_of((TURN,) * 400), text)


class Wrong(unittest.TestCase):
    def at(self, text):
        return raised(self, InvalidText, read_steps, text).word

    def test_document(self):
        self.assertEqual(self.at("turn turn"), 1)

    def test_values_that_are_no_strings(self):
        for value in [value for value in ODD_VALUES if not isinstance(value, str)] + [0, 7, TURN, (TURN,)]:
            self.assertEqual(self.at(value), 0)

    def test_words_that_cannot_stand(self):
        for text, word in [
                ("go", 0), ("Turn", 0), ("turn go", 1), ("turn ; go", 2), ("; turn", 0), ("turn ; ; turn", 2),
                (")", 0), ("( turn )", 0), ("turn )", 1), ("turn (", 1), ("else", 0), ("1", 0), ("foot", 0),
                ("road cart a b 1 1", 5), ("road feet a b 1", 1), ("road a b 1", 1), ("road foot 1 b 1", 2),
                ("road foot A b 1", 2), ("road foot a abcdef 1", 3), ("road foot a ?1 1", 3), ("road foot a b c", 4),
                ("road foot a b -1", 4), ("road foot a b -1/2", 4), ("road foot a b 2/4", 4), ("road foot a b 01", 4),
                ("road foot a b -0", 4), ("road foot a b 1/1", 4), ("road foot a b 1.5", 4), ("road foot a b 1/0", 4),
                ("ride foot a b +1", 4), ("place +1 a 1 1", 1), ("place p a 1", 4), ("place p a -1 1", 3),
                ("place p a 1 -1", 4), ("same a a", 2), ("same a 1", 2), ("same 1 1", 1), ("same a b c", 3),
                ("same same same", 2), ("forget", 1), ("forget a b", 2), ("forget 1", 1), ("cap foot -1", 2),
                ("cap 1", 1), ("scale foot 0", 2), ("scale foot -1", 2), ("scale foot 0/1", 2), ("turn foot", 1),
                ("round", 1), ("round 1", 1), ("round foot 1", 2), ("repeat", 1), ("repeat 0 ( )", 1),
                ("repeat 4 ( )", 1), ("repeat 1/2 ( )", 1), ("repeat -1 ( )", 1), ("repeat 01 ( )", 1),
                ("repeat 2/1 ( )", 1), ("repeat ( turn )", 1), ("repeat 2 turn", 2), ("repeat 2 ( turn", 4),
                ("repeat 2 ( ; turn )", 3), ("repeat 2 ( turn ; )", 5), ("repeat 2 ( turn ) )", 5),
                ("repeat 2 ( turn ) turn", 5), ("repeat 2 ( ) ( )", 4), ("repeat 2 ( ) else ( )", 4),
                ("repeat 2 ( ( turn ) )", 3), ("repeat 2 ( turn turn )", 4), ("repeat 2 ) ( )", 2),
                ("if foot a b", 4), ("if foot a b 1", 5), ("if foot a b 1 turn", 5), ("if foot a b -1 ( ) else ( )", 4),
                ("if foot a a 0 ( ) else ( ) else ( )", 10), ("if foot a b 1 ( ) ; turn", 7),
                ("if foot a b 1 ( ) ( )", 7), ("if foot a b 1 ( ) else", 8), ("if foot a b 1 ( ) else turn", 8),
                ("if foot a b 1 ( ) else (", 9), ("if foot a b 1 ( else ( )", 6), ("if a b 1 ( ) else ( )", 1),
                ("if foot a b ( ) else ( )", 4), ("if foot a b 1 ( turn ; ) else ( )", 8), ("if", 1)]:
            self.assertEqual(self.at(text), word, text)

    def test_texts_that_end_too_early(self):
        for text in ["turn ;", "road", "road foot a b", "place p", "same a", "cap foot", "repeat 2", "repeat 2 (",
                     "repeat 2 ( turn ;", "repeat 2 ( repeat 2 ( turn )", "if foot a b 1 ( turn )",
                     "if foot a b 1 ( turn ) else", "if foot a b 1 ( turn ) else ( turn"]:
            self.assertEqual(self.at(text), len(text.split(" ")), text)

    def test_empty_words(self):
        for text, word in [(" ", 0), ("  ", 0), (" turn", 0), ("turn ", 1), ("turn  ; turn", 1), ("turn ;  turn", 2),
                           ("cap  foot 1", 1), ("cap foot  1", 2), ("repeat 1 (  )", 3), ("repeat 1 ( ) ", 4),
                           ("repeat  1 ( )", 1), ("turn ; ", 2), ("same a  b", 2), ("if foot a b 1 ( )  else ( )", 7)]:
            self.assertEqual(self.at(text), word, text)

    def test_line_feeds_do_not_part_words(self):
        for text, word in [("turn\n", 0), ("\n", 0), ("turn\n;\nturn", 0), ("turn ;\nturn", 1), ("cap foot\n1", 1),
                           ("forget a\n", 1), ("cap foot 1\n", 2), ("repeat 1\n ( )", 1)]:
            self.assertEqual(self.at(text), word, text)

    def test_figures(self):
        self.assertEqual(read_steps("cap foot " + "9" * 60), (("cap", "foot", (10 ** 60 - 1, 1)),))
        self.assertEqual(self.at("cap foot " + "9" * 61), 2)
        self.assertEqual(self.at("turn ; scale foot 1/" + "9" * 61), 4)

    def test_brackets(self):
        deep = "repeat 1 ( " * 12 + "turn" + " )" * 12
        steps = TURN
        for _ in range(12):
            steps = ("repeat", 1, (steps,))
        self.assertEqual(read_steps(deep), (steps,))
        self.assertEqual(text_of((steps,)), deep)
        deeper = "repeat 1 ( " * 13 + "turn" + " )" * 13
        self.assertEqual(self.at(deeper), 38)
        self.assertEqual(self.at("repeat 1 ( " * 12 + "if foot a b 1 ( ) else ( )" + " )" * 12), 41)
        self.assertEqual(self.at("repeat 1 ( " * 12 + "repeat 1"), 38)
        self.assertEqual(self.at("repeat 1 ( " * 12 + "repeat 1 turn"), 38)
        many = " ; ".join(["repeat 1 ( turn )"] * 30)
        self.assertEqual(len(read_steps(many)), 30)
        both = "repeat 1 ( " * 11 + "if foot a b 1 ( turn ) else ( turn ) ; repeat 1 ( turn )" + " )" * 11
        self.assertEqual(text_of(read_steps(both)), both)
        chain = "if foot a b 0 ( ) else ( " * 12 + "turn" + " )" * 12
        self.assertEqual(text_of(read_steps(chain)), chain)
        self.assertEqual(self.at("if foot a b 0 ( ) else ( " * 13 + "turn" + " )" * 13), 9 * 12 + 5)


def is_name(word):
    return 1 <= len(word) <= 5 and all("a" <= char <= "z" for char in word)


def ratio_top(word):
    """The top of the ratio that a word is, or None."""
    top, slash, bottom = word.partition("/")
    try:
        value = ratio(int(top), int(bottom) if slash else 1)
    except ValueError:
        return None
    return value[0] if ratio_text(value) == word and len(word) < 60 else None


SHAPES = {
    "road": "LNNK", "ride": "LNNK", "place": "NNKK", "same": "MO", "forget": "N", "cap": "LK", "scale": "LQ",
    "turn": "", "round": "L", "if": "LNNK(S)E(S)", "repeat": "R(S)",
}


def first_wrong(text):
    """A second way to read a text: what is awaited stands on a pile. None if the text can be read."""
    words = text.split(" ") if text else []
    pile = [";", "X"] if words else []
    last = None
    for at, word in enumerate(words):
        while pile and (pile[-1] == ";" and word != ";" or pile[-1] == "S"):
            if pile.pop() == "S" and word != ")":
                pile += [";", "X"]
        if not pile:
            return at
        awaited = pile.pop()
        top = ratio_top(word)
        if awaited == "X" and word in SHAPES:
            pile += SHAPES[word][::-1]
            continue
        fits = {"L": word in ("foot", "cart"), "N": is_name(word), "M": is_name(word),
                "O": is_name(word) and word != last, "K": top is not None and top >= 0,
                "Q": top is not None and top > 0, "R": word in ("1", "2", "3"), "E": word == "else",
                "(": word == "(", ")": word == ")", ";": word == ";"}
        if not fits.get(awaited, False):
            return at
        if awaited == ";":
            pile += [";", "X"]
        last = word
    return None if all(awaited == ";" for awaited in pile) else len(words)


def random_steps(random, depth):
    def length():
        return ratio(random.randint(0, 9), random.randint(1, 4))

    steps = []
    for _ in range(random.randint(0, 3)):
        layer, a, b = random.choice(["foot", "cart"]), random.choice(["a", "if", "road"]), random.choice(["b", "turn"])
        choices = [("road", layer, a, b, length()), ("ride", layer, a, a, length()), ("place", b, a, length(), length()),
                   ("same", a, b), ("forget", a), ("cap", layer, length()), TURN, ("round", layer),
                   ("scale", layer, ratio(random.randint(1, 9), 4))]
        if depth:
            choices += [("if", layer, a, b, length(), random_steps(random, depth - 1), random_steps(random, depth - 1)),
                        ("repeat", random.randint(1, 3), random_steps(random, depth - 1))] * 3
        steps.append(random.choice(choices))
    return tuple(steps)


class RandomTexts(unittest.TestCase):
    def test_read_back(self):
        random = Random(31)
        for _ in range(300):
            steps = random_steps(random, 3)
            self.assertEqual(read_steps(text_of(steps)), steps)
            self.assertIsNone(first_wrong(text_of(steps)))

    def test_words_exchanged_cut_and_put_in(self):
        random = Random(32)
        pool = ["if", "else", "repeat", "(", ")", ";", "turn", "road", "same", "scale", "a", "b", "foot", "cart", "0",
                "1", "2", "4", "1/2", "2/4", "-1", "", "?1", "abcdef"]
        wrong = 0
        for _ in range(3000):
            words = text_of(random_steps(random, 2)).split(" ")
            for _ in range(random.randint(1, 2)):
                at = random.randrange(len(words))
                words[at:at + random.randint(0, 1)] = random.sample(pool, random.randint(0, 1)) or words[:0]
                words = words or ["turn"]
            text = " ".join(words[:random.choice([len(words), random.randint(1, len(words))])])
            expected = first_wrong(text)
            if expected is None:
                self.assertEqual(text_of(read_steps(text)), text)
            else:
                wrong += 1
                self.assertEqual(raised(self, InvalidText, read_steps, text).word, expected, text)
        self.assertGreater(wrong, 1000)


if __name__ == "__main__":
    unittest.main()
