"""Promise [3], and the entry of missingmiles/ratios.py."""

import unittest
from fractions import Fraction
from random import Random

from missingmiles.errors import InvalidRatio
from missingmiles.ratios import (added, is_less, is_number, is_ratio, multiplied, ratio, ratio_of, ratio_text,
                                 read_ratio)
from tests.helpers import ODD_VALUES, raised

LONG = 10 ** 30 - 1


class Made(unittest.TestCase):
    def test_lowest_terms(self):
        self.assertEqual(ratio(6, -8), (-3, 4))
        self.assertEqual(ratio(-6, -8), (3, 4))
        self.assertEqual(ratio(6, 8), (3, 4))
        self.assertEqual(ratio(-6, 8), (-3, 4))
        self.assertEqual(ratio(7), (7, 1))
        self.assertEqual(ratio(-7), (-7, 1))
        self.assertEqual(ratio(8, 4), (2, 1))
        self.assertEqual(ratio(top=1, bottom=3), (1, 3))

    def test_zero(self):
        for bottom in (1, -1, 5, -LONG):
            self.assertEqual(ratio(0, bottom), (0, 1))
        self.assertEqual(ratio(0), (0, 1))

    def test_long_numbers(self):
        self.assertEqual(ratio(LONG * 7, LONG), (7, 1))
        self.assertEqual(ratio(LONG, -1), (-LONG, 1))

    def test_first_that_is_no_number(self):
        for value in ODD_VALUES + [(1, 2), (0, 1)]:
            self.assertEqual(raised(self, InvalidRatio, ratio, value).given, value)
            self.assertEqual(raised(self, InvalidRatio, ratio, 1, value).given, value)
            self.assertEqual(raised(self, InvalidRatio, ratio, value, 0).given, value)
        self.assertEqual(raised(self, InvalidRatio, ratio, "a", "b").given, "a")
        self.assertIs(raised(self, InvalidRatio, ratio, True).given, True)
        self.assertIs(raised(self, InvalidRatio, ratio, 0, False).given, False)

    def test_bottom_zero(self):
        for top in (0, 1, -1, LONG):
            self.assertEqual(raised(self, InvalidRatio, ratio, top, 0).given, 0)

    def test_ratio_of(self):
        self.assertEqual(ratio_of((3, 4)), (3, 4))
        self.assertEqual(ratio_of(value=(0, 1)), (0, 1))
        self.assertEqual(ratio_of(-5), (-5, 1))
        self.assertEqual(ratio_of(0), (0, 1))
        for value in ODD_VALUES:
            self.assertEqual(raised(self, InvalidRatio, ratio_of, value).given, value)


class Asked(unittest.TestCase):
    def test_is_ratio(self):
        for value in [(0, 1), (1, 1), (-1, 1), (-3, 4), (LONG, LONG - 1), (10 ** 500, 3)]:
            self.assertIs(is_ratio(value), True)
        for value in ODD_VALUES + [0, 1, -1, [3, 4], (3, 4, 1), (3, 0), (3, -4), (0, 3), (0, 0), (6, 8), (-6, 8),
                                   (1, "2"), (1, None), ((1, 1), 1), (1, [1]), (False, 1), (1, True), "3/4"]:
            self.assertIs(is_ratio(value), False, value)

    def test_is_number(self):
        self.assertIs(is_number(1, 0, 5), True)
        self.assertIs(is_number(0, 0, 5), True)
        self.assertIs(is_number(5, 0, 5), True)
        self.assertIs(is_number(value=-3, least=-3, most=-3), True)
        for value in ODD_VALUES + [-1, 6, LONG, -LONG, (1, 1), (3, 1), [3]]:
            self.assertIs(is_number(value, 0, 5), False, value)
        self.assertIs(is_number(3, 4, 2), False)
        self.assertIs(is_number(LONG, LONG, LONG), True)

    def test_is_less(self):
        self.assertIs(is_less((1, 3), (1, 2)), True)
        self.assertIs(is_less((1, 2), (1, 3)), False)
        self.assertIs(is_less((1, 2), (1, 2)), False)
        self.assertIs(is_less((-1, 2), (-1, 3)), True)
        self.assertIs(is_less(-1, 0), True)
        self.assertIs(is_less(one=2, other=(5, 2)), True)
        self.assertIs(is_less((2, 1), 2), False)

    def test_is_less_names_the_first_that_is_no_ratio(self):
        for value in ODD_VALUES:
            self.assertEqual(raised(self, InvalidRatio, is_less, value, None).given, value)
            self.assertEqual(raised(self, InvalidRatio, is_less, 1, value).given, value)


class Sums(unittest.TestCase):
    def test_added(self):
        self.assertEqual(added(), (0, 1))
        self.assertEqual(added((1, 2), 1), (3, 2))
        self.assertEqual(added((1, 2), (1, 3), (1, 6)), (1, 1))
        self.assertEqual(added((1, 2), (-1, 2)), (0, 1))
        self.assertEqual(added(2), (2, 1))
        self.assertEqual(added(*[(1, 400)] * 400), (1, 1))

    def test_multiplied(self):
        self.assertEqual(multiplied(), (1, 1))
        self.assertEqual(multiplied((2, 3), (3, 2)), (1, 1))
        self.assertEqual(multiplied((-2, 3), 3, (1, 2)), (-1, 1))
        self.assertEqual(multiplied(0, (5, 7)), (0, 1))
        self.assertEqual(multiplied((5, 7), 0), (0, 1))
        self.assertEqual(multiplied(-4), (-4, 1))

    def test_like_fractions(self):
        random = Random(3)
        for _ in range(200):
            values = [ratio(random.randint(-30, 30), random.randint(1, 12)) for _ in range(random.randint(0, 5))]
            fractions = [Fraction(*value) for value in values]
            total, product = sum(fractions, Fraction(0)), Fraction(1)
            for fraction in fractions:
                product *= fraction
            self.assertEqual(added(*values), (total.numerator, total.denominator))
            self.assertEqual(multiplied(*values), (product.numerator, product.denominator))
            if len(values) > 1:
                self.assertEqual(is_less(*values[:2]), fractions[0] < fractions[1])

    def test_first_that_is_no_ratio(self):
        for call in (added, multiplied):
            for value in ODD_VALUES:
                self.assertEqual(raised(self, InvalidRatio, call, value).given, value)
                self.assertEqual(raised(self, InvalidRatio, call, 1, (1, 2), value, None).given, value)
                self.assertEqual(raised(self, InvalidRatio, call, 0, value).given, value)


class Texts(unittest.TestCase):
    def test_ratio_text(self):
        for value, text in [((3, 4), "3/4"), ((-3, 4), "-3/4"), ((3, 1), "3"), ((-3, 1), "-3"), ((0, 1), "0"),
                            (0, "0"), (12, "12"), (-12, "-12"), ((1, 100), "1/100"), ((1000, 1), "1000")]:
            self.assertEqual(ratio_text(value), text)
            self.assertEqual(ratio_text(value=value), text)
        for value in ODD_VALUES:
            self.assertEqual(raised(self, InvalidRatio, ratio_text, value).given, value)

    def test_texts_of_very_long_ratios(self):
        self.assertEqual(ratio_text(10 ** 59), "1" + "0" * 59)
        self.assertEqual(ratio_text(10 ** 60), "1" + "0" * 60)
        self.assertEqual(ratio_text(-10 ** 60 - 7), "-1" + "0" * 59 + "7")
        self.assertEqual(ratio_text(10 ** 120), "1" + "0" * 120)
        self.assertEqual(ratio_text((-1, 10 ** 6000)), "-1/1" + "0" * 6000)
        product = multiplied(*[LONG] * 400)
        self.assertEqual(len(ratio_text(product)), 12000)

    def test_read_back(self):
        random = Random(4)
        for _ in range(300):
            value = ratio(random.randint(-10 ** 6, 10 ** 6), random.choice([1, 2, 3, 10, 999, 10 ** 9]))
            self.assertEqual(read_ratio(ratio_text(value)), value)

    def test_read_ratio(self):
        for text, value in [("-3/4", (-3, 4)), ("3/4", (3, 4)), ("0", (0, 1)), ("7", (7, 1)), ("-7", (-7, 1)),
                            ("1/10", (1, 10)), ("10", (10, 1)), ("100/7", (100, 7))]:
            self.assertEqual(read_ratio(text), value)
            self.assertEqual(read_ratio(text=text), value)

    def test_texts_of_no_ratio(self):
        texts = ["", " ", "-", "/", "1/", "/2", "-/2", "1/2/3", "1//2", "+1", "-0", "-0/1", "00", "01", "-01", "1/02",
                 "1/0", "0/1", "0/2", "1/1", "7/1", "2/4", "-2/4", "1/-2", "-1/-2", "--1", " 1", "1 ", "1\n", "\n1",
                 "1 /2", "1/ 2", "1.0", "1e3", "1_0", "0x1", "one", "1/2 ", "a", "1,2", "(1, 2)", "None", "True"]
        for text in texts:
            self.assertEqual(raised(self, InvalidRatio, read_ratio, text).given, text)
        for text in ["\u0661", "\u00b2", "1/\u0662"]:
            self.assertEqual(raised(self, InvalidRatio, read_ratio, text).given, text)

    def test_read_values_that_are_no_strings(self):
        for value in [value for value in ODD_VALUES if not isinstance(value, str)] + [3, (3, 4), 0]:
            self.assertEqual(raised(self, InvalidRatio, read_ratio, value).given, value)

    def test_at_most_sixty_figures(self):
        self.assertEqual(read_ratio("9" * 60), (10 ** 60 - 1, 1))
        self.assertEqual(read_ratio("-" + "9" * 60), (1 - 10 ** 60, 1))
        self.assertEqual(read_ratio("1/" + "9" * 60), (1, 10 ** 60 - 1))
        self.assertEqual(read_ratio("-" + "8" * 60 + "/" + "8" * 59 + "9"), (-int("8" * 60), int("8" * 59 + "9")))
        for text in ["9" * 61, "-" + "9" * 61, "1/" + "9" * 61, "9" * 61 + "/2", "9" * 3000, "1/" + "0" * 2990]:
            self.assertEqual(raised(self, InvalidRatio, read_ratio, text).given, text)


class Example(unittest.TestCase):
    def test_document(self):
        self.assertEqual([ratio(6, -8), added((1, 2), 1), read_ratio("-3/4")], [(-3, 4), (3, 2), (-3, 4)])


if __name__ == "__main__":
    unittest.main()
