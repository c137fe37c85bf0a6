"""Promise [14], and the entry of missingmiles/means.py."""

import random
import unittest
from fractions import Fraction

from missingmiles.asking import Ground
from missingmiles.cases import triangles
from missingmiles.forms import Form
from missingmiles.means import Mean
from missingmiles.ratios import is_less
from tests.helpers import ODD_VALUES

ZERO, HALF, ONE, TWO = (0, 1), (1, 2), (1, 1), (2, 1)
AB, BC, AC = [Form(0, [(("foot", x, y), 1)]) for x, y in ["ab", "bc", "ac"]]


class Shows(unittest.TestCase):
    def test_one_form(self):
        self.assertIs(Mean([ONE], []).shows(AB, [AB], []), True)
        self.assertIs(Mean([ONE], []).shows(AB + Form(1), [AB], []), True)
        self.assertIs(Mean((ONE,), ()).shows(AB + BC, (AB,), ()), True)
        self.assertIs(Mean([ONE], []).shows(AB, [AB + Form(1)], []), False)
        self.assertIs(Mean([ONE], []).shows(AB, [AB + BC], []), False)
        self.assertIs(Mean([ONE], []).shows(AB, [BC], []), False)

    def test_several_forms(self):
        # Half of 2 d(a, b) and half of 2 d(b, c) + 4 are under their sum and 2.
        forms = [AB * 2, BC * 2 + Form(4)]
        self.assertIs(Mean([HALF, HALF], []).shows(AB + BC + Form(2), forms, []), True)
        self.assertIs(Mean([HALF, HALF], []).shows(AB + BC + Form((3, 2)), forms, []), False)
        self.assertIs(Mean([(1, 3), (2, 3)], []).shows(AB + BC + Form(2), forms, []), False)

    def test_weights_make_one(self):
        form, forms = AB + BC + Form(9), [AB, BC]
        for weights in [[HALF, (1, 3)], [HALF, ONE], [TWO, ZERO], [HALF, ZERO]]:
            self.assertIs(Mean(weights, []).shows(form, forms, []), False)
        for weights in [[HALF, HALF], [ONE, ZERO], [ZERO, ONE], [(1, 3), (2, 3)]]:
            self.assertIs(Mean(weights, []).shows(form, forms, []), True)

    def test_rows(self):
        rows = triangles(["a", "b", "c"], 1)
        at = rows.index((AC, AB + BC, False))
        sums = [ONE if k == at else ZERO for k in range(len(rows))]
        self.assertIs(Mean([ONE], sums).shows(AB + BC, [AC], rows), True)
        self.assertIs(Mean([ONE], [HALF if s == ONE else s for s in sums]).shows(AB + BC, [AC], rows), False)
        self.assertIs(Mean([ONE], [TWO if s == ONE else s for s in sums]).shows(AB + BC, [AC], rows), False)
        self.assertIs(Mean([ONE], [ZERO] * len(rows)).shows(AB + BC, [AC], rows), False)
        self.assertIs(Mean([ONE], sums[1:] + sums[:1]).shows(AB + BC, [AC], rows), False)
        forms, rows = [AC * 2 + Form(1)], [(AC, AB + Form(1), False)]
        self.assertIs(Mean([ONE], [TWO]).shows(AB * 2 + Form(3), forms, rows), True)
        self.assertIs(Mean([ONE], [TWO]).shows(AB * 2 + Form(2), forms, rows), False)

    def test_void(self):
        nowhere = [(AB + Form(1), AB, False)]
        self.assertIs(Mean([], [ONE]).shows(Form(), [], nowhere), True)
        self.assertIs(Mean([ZERO], [(1, 9)]).shows(AB, [BC], nowhere), True)
        self.assertIs(Mean([], [ZERO]).shows(Form(), [], nowhere), False)
        self.assertIs(Mean([], []).shows(Form(), [], []), False)
        self.assertIs(Mean([], []).shows(Form(5), [], []), False)

    def test_strict_rows(self):
        for strict in (True, False):
            self.assertIs(Mean([], [ONE]).shows(Form(), [], [(AB, AB, strict)]), strict)
            self.assertIs(Mean([], [ZERO]).shows(Form(), [], [(AB, AB, strict)]), False)
            rows = [(AB, BC, strict), (BC, AB, False)]
            self.assertIs(Mean([], [ONE, ONE]).shows(Form(), [], rows), strict)
            self.assertIs(Mean([ZERO], [ONE, ONE]).shows(Form(), [AB], rows), strict)
            self.assertIs(Mean([], [ONE, TWO]).shows(Form(), [], rows), False)
        self.assertIs(Mean([], [ONE, ZERO]).shows(Form(), [], [(AB, AB, False), (AB, AB, True)]), False)
        self.assertIs(Mean([], [ONE, ONE]).shows(Form(), [], [(AB, AB, True), (AB, AB + Form(1), False)]), False)

    def test_shift(self):
        mean = Mean([ONE], [])
        for shift, shown in [(0, False), (1, True), (2, True), ((1, 2), False), ((3, 2), True), (-1, False)]:
            self.assertIs(mean.shows(AB, [AB + Form(1)], [], shift=shift), shown)
        self.assertIs(mean.shows(AB + Form(1), [AB], [], shift=-1), True)
        self.assertIs(mean.shows(AB + Form(1), [AB], [], shift=(-3, 2)), False)
        # Without weights the shift means nothing.
        self.assertIs(Mean([ZERO], [ONE]).shows(AB, [AB], [(AB, AB, False)], shift=5), False)
        self.assertIs(Mean([ZERO], [ONE]).shows(AB, [AB], [(Form(1), Form(), False)], shift=-5), True)

    def test_wrong_lists(self):
        rows, forms = [(AB, BC, False)], [AB, BC]
        form = AB + BC + Form(3)
        self.assertIs(Mean([HALF, HALF], [ZERO]).shows(form, forms, rows), True)
        for wrong in [*ODD_VALUES, 0, [ONE], [HALF, HALF, ZERO], [1, 0], [HALF, "1/2"], [HALF, None], [(2, 4), HALF],
                      [(3, 2), (-1, 2)], [True, False], "ab", {}, [[1, 2], [1, 2]]]:
            self.assertIs(Mean(wrong, [ZERO]).shows(form, forms, rows), False)
        odd = [value for value in ODD_VALUES if value not in ([(1, 2)], ((1, 2),))]
        for wrong in [*odd, 0, [], [ZERO, ZERO], [0], [(-1, 1)], [None], ["0"], [False], [[0, 1]], "a", {}]:
            self.assertIs(Mean([HALF, HALF], wrong).shows(form, forms, rows), False)

    def test_no_part_below_zero(self):
        # What one part has too much does not make up for what another one lacks.
        self.assertIs(Mean([ONE], []).shows(AB * 5, [AB + BC], []), False)
        self.assertIs(Mean([ONE], [ONE]).shows(AB + BC, [AB], [(AC, AC + BC * 2, False)]), False)
        self.assertIs(Mean([], [ONE]).shows(Form(), [], [(Form(1), AB, False)]), False)

    def test_fact(self):
        """A mean that shows holds in each world; where there is none, some world has the form below all."""
        source = random.Random(1)
        names = ["a", "b", "c"]
        keys = [("foot", x, y) for x in names for y in names if x != y]

        def draw():
            parts = [(key, source.randint(1, 2)) for key in source.sample(keys, source.randint(0, 2))]
            return Form(source.randint(0, 2), parts)

        means = 0
        for _ in range(150):
            form, forms = draw(), [draw() for _ in range(source.randint(1, 3))]
            rows = [*triangles(names, 1), (draw(), draw(), source.random() < 0.5)]
            answer = Ground(names, [], 1).mean_or_world(form, forms, rows)
            if isinstance(answer, Mean):
                self.assertTrue(answer.shows(form, forms, rows))
                means += 1
                continue
            self.assertTrue(all(is_less(form.value(answer), other.value(answer)) for other in forms))
            low, high, strict = rows[-1]
            self.assertTrue(is_less(low.value(answer), high.value(answer))
                            or not strict and low.value(answer) == high.value(answer))
        self.assertTrue(20 < means < 130)


class Values(unittest.TestCase):
    def test_lists(self):
        mean = Mean((HALF, [1, (2, [3])]), [ZERO])
        self.assertEqual((mean.weights(), mean.sums()), ([HALF, [1, (2, [3])]], [ZERO]))
        for value in [None, True, 3, "ab", Fraction(1, 2)]:
            self.assertEqual((Mean(value, value).weights(), Mean(value, value).sums()), (value, value))
        self.assertEqual(Mean(weights=[], sums=()).sums(), [])

    def test_lists_are_copied(self):
        weights, sums = [HALF, [1]], [ZERO]
        mean = Mean(weights, sums)
        weights[1].append(2)
        sums.append(1)
        mean.weights()[1].append(3)
        mean.weights().clear()
        mean.sums().append(4)
        self.assertEqual((mean.weights(), mean.sums()), ([HALF, [1]], [ZERO]))

    def test_is_void(self):
        for value in [[], (), [ZERO], [ZERO, ZERO], (ZERO,)]:
            self.assertIs(Mean(value, None).is_void(), True)
        for value in [[ONE], [ZERO, ONE], [0], [False], [None], [(False, True)], [(0, 2)], [[0, 1]], None, 0, "", "0",
                      False, [ZERO, (-1, 1)], [ZERO, 0]]:
            self.assertIs(Mean(value, [ZERO]).is_void(), False)

    def test_equal(self):
        self.assertEqual(Mean([HALF], [ZERO, ONE]), Mean((HALF,), (ZERO, ONE)))
        self.assertEqual(Mean(None, "a"), Mean(None, "a"))
        for other in [Mean([HALF], [ZERO]), Mean([ONE], [ZERO, ONE]), Mean([ZERO, ONE], [HALF]), Mean(None, None),
                      ([HALF], [ZERO, ONE]), None, 1]:
            self.assertFalse(Mean([HALF], [ZERO, ONE]) == other)
            self.assertTrue(Mean([HALF], [ZERO, ONE]) != other)

    def test_repr(self):
        for value, many in [([], 0), ([ONE], 1), ((ONE, None), 2), (None, 0), ("abc", 0), (7, 0), (True, 0)]:
            self.assertEqual(repr(Mean(value, [ONE] * 5)), f"Mean({many} forms)")


if __name__ == "__main__":
    unittest.main()
