"""Promises [4] and [5], and the entry of missingmiles/straight.py."""

import unittest
from fractions import Fraction
from random import Random

from missingmiles.errors import InvalidNumber, InvalidRow
from missingmiles.ratios import ratio
from missingmiles.simplex import Tableau
from missingmiles.straight import Answer, Barred, Endless, Problem, Solved, Top
from tests.helpers import ODD_VALUES, raised

ZERO = (0, 1)
ONE = (1, 1)


def fractions(values):
    return [Fraction(*value) for value in values]


def total(factors, values):
    return sum((one * other for one, other in zip(factors, values)), Fraction(0))


def plain_rows(problem):
    """The rows, and that each unknown is at least 0, as lists of fractions."""
    rows = [(fractions(factors), Fraction(*bound), strict) for factors, bound, strict in problem.rows()]
    for k in range(problem.size):
        rows.append(([Fraction(-1 if k == at else 0) for at in range(problem.size)], Fraction(0), False))
    return rows


def without_first(rows):
    """Rows without the first unknown, which some values keep just if some values keep the rows."""
    above = [row for row in rows if row[0][0] > 0]
    below = [row for row in rows if row[0][0] < 0]
    rest = [(row[0][1:], row[1], row[2]) for row in rows if row[0][0] == 0]
    for one, bound, strict in above:
        for other, other_bound, other_strict in below:
            up, down = 1 / one[0], -1 / other[0]
            factors = [up * x + down * y for x, y in zip(one[1:], other[1:])]
            rest.append((factors, up * bound + down * other_bound, strict or other_strict))
    return list({(tuple(factors), bound, strict): (factors, bound, strict) for factors, bound, strict in rest}.values())


def can_be_kept(rows):
    """Whether some values keep the rows, found by taking one unknown after the other away."""
    while rows and rows[0][0]:
        rows = without_first(rows)
    return all(0 < bound or 0 == bound and not strict for _, bound, strict in rows)


def greatest_sum(problem, factors):
    """The least upper bound of a sum, or None if there is none; the rows can be kept."""
    size = problem.size
    rows = [([*row, Fraction(0)], bound, strict) for row, bound, strict in plain_rows(problem)]
    goal = [Fraction(factor) for factor in factors]
    rows.append(([*goal, Fraction(-1)], Fraction(0), False))
    rows.append(([*[-factor for factor in goal], Fraction(1)], Fraction(0), False))
    for _ in range(size):
        rows = without_first(rows)
    bounds = [bound / row[0] for row, bound, _ in rows if row[0] > 0]
    return min(bounds) if bounds else None


def shows_barred(case, answer, problem):
    """Checks a Barred by its own sums."""
    weights = fractions(answer.weights())
    rows = problem.rows()
    case.assertEqual(len(weights), len(rows))
    case.assertTrue(all(weight >= 0 for weight in weights))
    for k in range(problem.size):
        case.assertGreaterEqual(total([Fraction(*row[0][k]) for row in rows], weights), 0)
    bound = total([Fraction(*row[1]) for row in rows], weights)
    strict = any(row[2] and weight > 0 for row, weight in zip(rows, weights))
    case.assertTrue(bound < 0 or bound == 0 and strict)


def keeps_rows(case, values, problem, loose):
    case.assertTrue(all(value >= 0 for value in values))
    case.assertEqual(len(values), problem.size)
    for factors, bound, strict in problem.rows():
        here, most = total(fractions(factors), values), Fraction(*bound)
        case.assertTrue(here < most or here == most and (loose or not strict))


def checked(case, answer, problem, factors=None):
    """Checks the answer of solve or greatest by its own sums; returns what it tells."""
    case.assertIs(answer.holds(), True)
    case.assertEqual(answer.problem, problem)
    case.assertIs(bool(answer), answer.__class__ is not Barred)
    if answer.__class__ is Barred:
        shows_barred(case, answer, problem)
        return "barred"
    values = fractions(answer.numbers())
    keeps_rows(case, values, problem, answer.__class__ is not Solved)
    if answer.__class__ is Solved:
        return "solved"
    goal = [Fraction(factor) for factor in factors]
    case.assertEqual(answer.factors(), [(factor.numerator, factor.denominator) for factor in goal])
    if answer.__class__ is Endless:
        direction = fractions(answer.direction())
        case.assertTrue(all(step >= 0 for step in direction))
        case.assertTrue(all(total(fractions(row[0]), direction) <= 0 for row in problem.rows()))
        case.assertGreater(total(goal, direction), 0)
        return "endless"
    case.assertIs(answer.__class__, Top)
    weights = fractions(answer.weights())
    rows = problem.rows()
    number = Fraction(*answer.number)
    case.assertTrue(all(weight >= 0 for weight in weights))
    case.assertEqual(total(goal, values), number)
    case.assertEqual(total([Fraction(*row[1]) for row in rows], weights), number)
    for k in range(problem.size):
        case.assertGreaterEqual(total([Fraction(*row[0][k]) for row in rows], weights), goal[k])
    return "top"


def random_problem(random, most_unknowns, most_rows, fractional=False):
    size = random.randint(0, most_unknowns)

    def number(low, high):
        top = random.randint(low, high)
        return ratio(top, random.randint(1, 4)) if fractional else top

    rows = []
    for _ in range(random.randint(0, most_rows)):
        factors = [random.choice([0, number(-3, 3)]) for _ in range(size)]
        rows.append((factors, number(-3, 5), random.random() < 0.4))
    return Problem(size, rows)


class Constructor(unittest.TestCase):
    def test_sizes(self):
        self.assertEqual(Problem.MOST, 60)
        for size in (0, 1, 60):
            self.assertEqual(Problem(size).size, size)
            self.assertEqual(Problem(size).rows(), [])
        for size in ODD_VALUES + [-1, 61, 10 ** 29, (1, 1), (0, 1), [2]]:
            self.assertEqual(raised(self, InvalidNumber, Problem, size).given, size)
            self.assertEqual(raised(self, InvalidNumber, Problem, size, [None]).given, size)

    def test_rows_are_told_as_tuples_of_ratios(self):
        problem = Problem(2, [([1, (1, 2)], 3, False), ((0, -1), (-1, 3), True)])
        self.assertEqual(problem.rows(), [(((1, 1), (1, 2)), (3, 1), False), (((0, 1), (-1, 1)), (-1, 3), True)])
        for row in problem.rows():
            self.assertIs(row.__class__, tuple)
            self.assertIs(row[0].__class__, tuple)
        self.assertEqual(Problem(size=2, rows=tuple(problem.rows())).rows(), problem.rows())
        self.assertEqual(Problem(0, [((), 1, False), ([], 0, True)]).rows(), [((), (1, 1), False), ((), (0, 1), True)])

    def test_invalid_rows(self):
        good = ([1, 1], 1, False)
        wrong = ODD_VALUES + [
            0, 5, [[1, 1], 1, False], ([1, 1], 1), ([1, 1], 1, False, False), ([1], 1, False), ([1, 1, 1], 1, False),
            (1, 1, False), ("ab", 1, False), (None, 1, False), ([1, True], 1, False), ([None, 1], 1, False),
            ([1, (2, 4)], 1, False), ([1, [1, 2]], 1, False), ([1, "1"], 1, False), ([1, 1], True, False),
            ([1, 1], None, False), ([1, 1], "1", False), ([1, 1], (2, 2), False), ([1, 1], [1, 1], False),
            ([1, 1], 1, 0), ([1, 1], 1, 1), ([1, 1], 1, None), ([1, 1], 1, "strict"), ([1, 1], 1, [True]),
        ]
        for value in wrong:
            self.assertEqual(raised(self, InvalidRow, Problem, 2, [value]).at, 0)
            self.assertEqual(raised(self, InvalidRow, Problem, 2, [good, good, value, None]).at, 2)

    def test_lists_are_copied(self):
        factors = [1, 2]
        rows = [(factors, 3, False)]
        problem = Problem(2, rows)
        factors[0] = None
        rows.append(None)
        self.assertEqual(problem.rows(), [(((1, 1), (2, 1)), (3, 1), False)])
        problem.rows().append(None)
        problem.rows().clear()
        self.assertEqual(len(problem.rows()), 1)

    def test_row_with(self):
        problem = Problem(2, [([1, 1], 1, False)])
        more = problem.row_with([1, (1, 2)], (3, 2), strict=True)
        self.assertEqual(more.rows(), [*problem.rows(), (((1, 1), (1, 2)), (3, 2), True)])
        self.assertEqual(problem.row_with(factors=(0, 0), bound=-1).rows()[1], (((0, 1), (0, 1)), (-1, 1), False))
        self.assertEqual(len(problem), 1)
        for value in ODD_VALUES + [1, (1, 2, 3), [1, 2, 3], [1]]:
            if value not in ([1, 2], (1, 0), (1, -2), (2, 4), (0, 2)):
                self.assertEqual(raised(self, InvalidRow, problem.row_with, value, 1).at, 1)
        for value in ODD_VALUES:
            self.assertEqual(raised(self, InvalidRow, problem.row_with, [1, 1], value).at, 1)
            if value not in (True, False):
                self.assertEqual(raised(self, InvalidRow, problem.row_with, [1, 1], 1, strict=value).at, 1)
        self.assertEqual(raised(self, InvalidRow, more.row_with, [1, 1], 1, strict=1).at, 2)
        self.assertEqual(raised(self, InvalidRow, more.row_with, [1, 1], 1, strict=0).at, 2)
        with self.assertRaises(TypeError):
            problem.row_with([1, 1], 1, True)

    def test_size_cannot_be_assigned(self):
        with self.assertRaises(AttributeError):
            Problem(1).size = 2


class Plain(unittest.TestCase):
    def test_length_truth_and_repr(self):
        problem = Problem(2, [([1, 1], 1, False)] * 3)
        self.assertEqual(len(problem), 3)
        self.assertEqual(repr(problem), "Problem(2 unknowns, 3 rows)")
        self.assertEqual(repr(Problem(1, [([1], 1, False)])), "Problem(1 unknowns, 1 rows)")
        self.assertEqual(repr(Problem(0)), "Problem(0 unknowns, 0 rows)")
        self.assertIs(bool(Problem(0)), True)
        self.assertEqual(len(Problem(0)), 0)

    def test_equality(self):
        self.assertTrue(Problem(1, [([1], 2, False)]) == Problem(1, [(((1, 1),), (2, 1), False)]))
        self.assertFalse(Problem(1, [([1], 2, False)]) != Problem(1, [((1,), 2, False)]))
        for other in [Problem(1), Problem(1, [([1], 2, True)]), Problem(1, [([1], 3, False)]), None, 1, "x", [], (),
                      [([1], 2, False)], Problem(1, [([2], 2, False)]), Problem(1, [([1], 2, False)] * 2)]:
            self.assertFalse(Problem(1, [([1], 2, False)]) == other)
            self.assertTrue(Problem(1, [([1], 2, False)]) != other)
        self.assertFalse(Problem(1) == Problem(2))
        self.assertFalse(Problem(1, [([1], 2, False), ([1], 3, False)]) == Problem(1, [([1], 3, False),
                                                                                       ([1], 2, False)]))


class Keeps(unittest.TestCase):
    problem = Problem(2, [([1, 1], 2, False), ([1, -1], 0, True)])

    def test_values(self):
        keeps = self.problem.keeps
        self.assertIs(keeps([ZERO, ONE]), True)
        self.assertIs(keeps((ZERO, ONE)), True)
        self.assertIs(keeps(values=[(1, 2), (3, 2)]), True)
        self.assertIs(keeps([ONE, ONE]), False)
        self.assertIs(keeps([ONE, ONE], loose=True), True)
        self.assertIs(keeps([ONE, ONE], loose=False), False)
        self.assertIs(keeps([ZERO, (3, 1)]), False)
        self.assertIs(keeps([ZERO, (3, 1)], loose=True), False)
        self.assertIs(keeps([(2, 1), ONE], loose=True), False)
        self.assertIs(keeps([ZERO, ZERO]), False)
        self.assertIs(keeps([ZERO, ZERO], loose=True), True)

    def test_wrong_values(self):
        wrong = ODD_VALUES + [[ZERO], [ZERO, ONE, ZERO], [0, 1], [ZERO, 1], [0, ONE], [(-1, 1), ONE], [ZERO, (2, 2)],
                              [ZERO, True], [False, ONE], [ZERO, None], "ab", [ZERO, [1, 1]], [ZERO, "1"]]
        for value in wrong:
            self.assertIs(self.problem.keeps(value), False, value)
            self.assertIs(self.problem.keeps(value, loose=True), False, value)

    def test_no_unknowns(self):
        self.assertIs(Problem(0).keeps([]), True)
        self.assertIs(Problem(0).keeps(()), True)
        self.assertIs(Problem(0).keeps([ZERO]), False)
        self.assertIs(Problem(0, [([], 0, True)]).keeps([]), False)
        self.assertIs(Problem(0, [([], 0, True)]).keeps([], loose=True), True)
        self.assertIs(Problem(0, [([], -1, False)]).keeps([], loose=True), False)


class Solve(unittest.TestCase):
    def test_document(self):
        barred = Problem(1, [([1], 2, False), ([-1], -3, False)])
        self.assertEqual(barred.solve().told(), "barred")
        self.assertEqual(Problem(1, [([1], 2, False)]).greatest([3]).told(), "top 6")

    def told(self, size, rows):
        problem = Problem(size, rows)
        return checked(self, problem.solve(), problem)

    def test_bounds_that_meet(self):
        low, high = ([-1], -2, False), ([1], 2, False)
        self.assertEqual(self.told(1, [low, high]), "solved")
        self.assertEqual(Problem(1, [low, high]).solve().numbers(), [(2, 1)])
        self.assertEqual(self.told(1, [([-1], -2, True), high]), "barred")
        self.assertEqual(self.told(1, [low, ([1], 2, True)]), "barred")
        self.assertEqual(self.told(1, [low, ([1], (2001, 1000), True)]), "solved")
        self.assertEqual(self.told(2, [([1, -1], 0, True), ([-1, 1], 0, False)]), "barred")
        self.assertEqual(self.told(2, [([1, -1], 0, False), ([-1, 1], 0, False)]), "solved")
        self.assertEqual(self.told(2, [([1, -1], 0, True), ([-1, 1], (1, 10 ** 29), True)]), "solved")

    def test_unknowns_are_at_least_zero(self):
        self.assertEqual(self.told(1, [([1], 0, False)]), "solved")
        self.assertEqual(self.told(1, [([1], 0, True)]), "barred")
        self.assertEqual(self.told(1, [([1], -1, False)]), "barred")
        self.assertEqual(self.told(2, [([1, 1], (-1, 10 ** 29), False)]), "barred")

    def test_no_unknowns(self):
        self.assertEqual(self.told(0, []), "solved")
        self.assertEqual(self.told(0, [([], 0, False), ([], 1, True)]), "solved")
        self.assertEqual(self.told(0, [([], 1, False), ([], 0, True)]), "barred")
        self.assertEqual(self.told(0, [([], -1, False)]), "barred")
        self.assertEqual(self.told(3, []), "solved")

    def test_chain_of_strict_rows(self):
        size = 12
        rows = []
        for k in range(size - 1):
            rows.append(([1 if at == k else -1 if at == k + 1 else 0 for at in range(size)], 0, True))
        last = [0] * (size - 1) + [1]
        self.assertEqual(self.told(size, rows + [(last, (1, 7), True)]), "solved")
        self.assertEqual(self.told(size, rows + [(last, 0, False)]), "barred")
        circle = [1 if at == size - 1 else -1 if at == 0 else 0 for at in range(size)]
        self.assertEqual(self.told(size, rows + [(circle, 0, False)]), "barred")
        self.assertEqual(self.told(size, rows + [(circle, (1, 9), False)]), "solved")

    def test_like_taking_unknowns_away(self):
        random = Random(11)
        counts = {"solved": 0, "barred": 0}
        for turn in range(400):
            problem = random_problem(random, 3, 6, turn % 2 == 1)
            told = checked(self, problem.solve(), problem)
            self.assertEqual(told == "solved", can_be_kept(plain_rows(problem)))
            counts[told] += 1
        self.assertGreater(min(counts.values()), 50)

    def test_long_numbers(self):
        big = 10 ** 30 - 1
        self.assertEqual(self.told(2, [([big, 1 - big], -1, False), ([-1, 1], (1, big - 1), True)]), "barred")
        self.assertEqual(self.told(2, [([big, 1 - big], -1, False), ([-1, 1], (1, big - 2), True)]), "solved")
        self.assertEqual(self.told(1, [([big], (1, big), False), ([-1], (-1, big), False)]), "barred")

    def test_equal_calls(self):
        random = Random(12)
        for _ in range(20):
            problem = random_problem(random, 4, 8)
            again = Problem(problem.size, problem.rows())
            one, other = problem.solve(), again.solve()
            self.assertEqual(one.told(), other.told())
            if one:
                self.assertEqual(one.numbers(), other.numbers())
            else:
                self.assertEqual(one.weights(), other.weights())


class Greatest(unittest.TestCase):
    def told(self, size, rows, factors):
        problem = Problem(size, rows)
        answer = problem.greatest(factors)
        checked(self, answer, problem, [Fraction(*factor) if isinstance(factor, tuple) else Fraction(factor)
                                        for factor in factors])
        return answer.told()

    def test_kinds(self):
        rows = [([1, 2], 4, False), ([3, 1], 6, False)]
        self.assertEqual(self.told(2, rows, [1, 1]), "top 14/5")
        self.assertEqual(self.told(2, rows, [-1, 0]), "top 0")
        self.assertEqual(self.told(2, rows, [0, 0]), "top 0")
        self.assertEqual(self.told(2, rows[:1], [1, -2]), "top 4")
        self.assertEqual(self.told(2, [([1, -1], 1, False)], [1, 0]), "endless")
        self.assertEqual(self.told(2, [([1, -1], 1, False)], [1, -1]), "top 1")
        self.assertEqual(self.told(2, [([1, -1], 1, False)], [1, (-99, 100)]), "endless")
        self.assertEqual(self.told(2, [([1, -1], 1, False)], (1, (-101, 100))), "top 1")
        self.assertEqual(self.told(1, [([-1], -3, False)], [-1]), "top -3")
        self.assertEqual(self.told(1, [([1], 2, False), ([-1], -3, False)], [1]), "barred")
        self.assertEqual(self.told(0, [], []), "top 0")
        self.assertEqual(self.told(0, [([], -1, False)], []), "barred")
        self.assertEqual(self.told(2, [], [0, 1]), "endless")
        self.assertEqual(self.told(2, [], [0, -1]), "top 0")

    def test_strict_rows_bar_but_do_not_lower(self):
        self.assertEqual(self.told(1, [([1], 2, True)], [3]), "top 6")
        self.assertEqual(self.told(1, [([1], 2, True), ([-1], -2, False)], [3]), "barred")
        self.assertEqual(self.told(1, [([1], 2, True), ([-1], -2, False)], [0]), "barred")
        self.assertEqual(self.told(2, [([1, -1], 0, True), ([-1, 1], 1, True)], [-1, 1]), "top 1")
        self.assertEqual(self.told(2, [([1, -1], 0, True), ([-1, 1], 0, True)], [1, 1]), "barred")
        self.assertEqual(self.told(2, [([1, -1], 0, True)], [1, 0]), "endless")

    def test_factors_are_told_as_ratios(self):
        problem = Problem(2, [([1, 1], 1, False)])
        for factors in ([1, (1, 2)], (1, (1, 2)), ((1, 1), (1, 2))):
            answer = problem.greatest(factors=factors)
            self.assertEqual(answer.factors(), [(1, 1), (1, 2)])
            self.assertIs(answer.factors().__class__, list)
        self.assertEqual(Problem(1).greatest((2,)).factors(), [(2, 1)])
        self.assertEqual(Problem(1).greatest((2,)).told(), "endless")

    def test_invalid_factors(self):
        for problem in [Problem(2), Problem(2, [([1, 1], -1, False)]), Problem(2, [([1, 1], 1, True)])]:
            for value in ODD_VALUES + [1, 0, [1], [1, 2, 3], [1, None], [None, 1], [1, (2, 4)], [True, 1], "ab",
                                       [1, [1, 2]], [1, "1"]]:
                if value not in ([1, 2], (1, 0), (1, -2), (2, 4), (0, 2)):
                    self.assertEqual(raised(self, InvalidRow, problem.greatest, value).at, 0)

    def test_like_taking_unknowns_away(self):
        random = Random(13)
        counts = {"top": 0, "barred": 0, "endless": 0}
        for turn in range(400):
            problem = random_problem(random, 3, 5, turn % 2 == 1)
            factors = [random.randint(-3, 3) for _ in range(problem.size)]
            answer = problem.greatest(factors)
            told = checked(self, answer, problem, factors)
            counts[told] += 1
            self.assertEqual(told != "barred", can_be_kept(plain_rows(problem)))
            if told == "top":
                self.assertEqual(greatest_sum(problem, factors), Fraction(*answer.number))
            if told == "endless":
                self.assertIsNone(greatest_sum(problem, factors))
        self.assertGreater(min(counts.values()), 40)

    def test_larger_problems(self):
        random = Random(14)
        for turn in range(12):
            size = random.randint(10, 20)
            inner = [random.randint(0, 6) for _ in range(size)]
            rows = []
            for _ in range(random.randint(15, 40)):
                factors = [random.choice([0, 0, random.randint(-4, 4)]) for _ in range(size)]
                bound = sum(x * y for x, y in zip(factors, inner)) + random.choice([0, 0, 1])
                rows.append((factors, bound, random.random() < 0.2))
            problem = Problem(size, rows)
            checked(self, problem.solve(), problem)
            goal = [random.randint(-3, 2) for _ in range(size)]
            checked(self, problem.greatest(goal), problem, goal)

    def test_distances_of_six_places(self):
        keys = [(x, y) for x in range(6) for y in range(6) if x != y]
        rows = []
        for x, z in keys:
            for y in range(6):
                if y not in (x, z):
                    signs = {(x, z): 1, (x, y): -1, (y, z): -1}
                    rows.append(([signs.get(key, 0) for key in keys], 0, False))
        steps = [[1 if key == (k, k + 1) else 0 for key in keys] for k in range(5)]
        problem = Problem(30, rows + [(step, (1, k + 1), False) for k, step in enumerate(steps)])
        goal = [1 if key == (0, 5) else 0 for key in keys]
        answer = problem.greatest(goal)
        checked(self, answer, problem, goal)
        self.assertEqual(answer.told(), "top 137/60")
        self.assertEqual(problem.greatest([1 if key == (5, 0) else 0 for key in keys]).told(), "endless")
        least = problem.row_with([-1 if key == (0, 5) else 0 for key in keys], (-137, 60), strict=True)
        self.assertEqual(checked(self, least.solve(), least), "barred")

    def test_circling_choices(self):
        # A known problem on which the steepest choices go round in circles.
        rows = [([(1, 4), -60, (-1, 25), 9], 0, False), ([(1, 2), -90, (-1, 50), 3], 0, False),
                ([0, 0, 1, 0], 1, False)]
        self.assertEqual(self.told(4, rows, [(3, 4), -150, (1, 50), -6]), "top 1/20")

    def test_without_patience(self):
        class Impatient(Tableau):
            def __init__(self, rows, goals):
                super().__init__(rows, goals)
                self._patience = 0

        random = Random(15)
        for _ in range(150):
            problem = random_problem(random, 5, 9)
            rows = [(factors, bound) for factors, bound, _ in problem.rows()] + [((ZERO,) * problem.size, ONE)]
            goal = [(random.randint(-3, 3), 1) for _ in range(problem.size)]
            patient, impatient = Tableau(rows, [goal]), Impatient(rows, [goal])
            settled = [table.settle() is None for table in (patient, impatient)]
            self.assertEqual(settled[0], settled[1])
            if settled[0]:
                tops = [table.climb(0) is None and table.height(0) for table in (patient, impatient)]
                self.assertEqual(tops[0], tops[1])


class Answers(unittest.TestCase):
    problem = Problem(2, [([1, 1], 2, False), ([1, -1], 0, True)])
    barred = Problem(1, [([1], 2, False), ([-1], -3, False), ([1], 9, True)])

    def test_classes(self):
        self.assertEqual(Answer.__bases__, (object,))
        self.assertEqual(Solved.__bases__, (Answer,))
        self.assertEqual(Barred.__bases__, (Answer,))
        self.assertEqual(Top.__bases__, (Solved,))
        self.assertEqual(Endless.__bases__, (Solved,))
        self.assertEqual([kind.KIND for kind in (Answer, Solved, Barred, Top, Endless)],
                         ["open", "solved", "barred", "top", "endless"])

    def test_listed_methods_stand_in_their_classes(self):
        for kind, names in [(Answer, "problem told holds __bool__ __repr__"), (Solved, "numbers holds"),
                            (Barred, "weights holds"), (Top, "factors weights told holds"),
                            (Endless, "factors direction holds")]:
            for name in names.split():
                self.assertIn(name, vars(kind))

    def test_answer(self):
        answer = Answer(self.problem)
        self.assertIs(answer.problem, self.problem)
        self.assertEqual(answer.told(), "open")
        self.assertIs(answer.holds(), False)
        self.assertIs(bool(answer), False)
        self.assertEqual(repr(answer), "Answer(open)")
        self.assertEqual(Answer(problem=self.problem).problem, self.problem)

    def test_told_repr_and_truth(self):
        top = Top(self.problem, [1, 1], (3, 2), [ZERO, ZERO], [])
        for answer, told, truth in [(Solved(self.problem, None), "solved", True), (top, "top 3/2", True),
                                    (Barred(self.problem, None), "barred", False),
                                    (Endless(self.problem, 1, 2, 3), "endless", True)]:
            self.assertEqual(answer.told(), told)
            self.assertEqual(repr(answer), f"Answer({told})")
            self.assertIs(bool(answer), truth)
        for number in ODD_VALUES + [1, 0, [3, 2], (4, 2), "3/2"]:
            answer = Top(self.problem, [1, 1], number, [ZERO, ZERO], [])
            self.assertEqual(answer.told(), "top")
            self.assertEqual(repr(answer), "Answer(top)")
            self.assertEqual(answer.number, number)
        self.assertEqual(Top(self.problem, 0, (-10 ** 5000, 1), 0, 0).told(), "top -1" + "0" * 5000)

    def test_parameters_by_name(self):
        self.assertEqual(Solved(problem=self.problem, values=[1]).numbers(), [1])
        self.assertEqual(Barred(problem=self.problem, weights=[1]).weights(), [1])
        top = Top(problem=self.problem, factors=[1], number=2, values=[3], weights=[4])
        self.assertEqual((top.factors(), top.number, top.numbers(), top.weights()), ([1], 2, [3], [4]))
        endless = Endless(problem=self.problem, factors=[1], values=[2], direction=[3])
        self.assertEqual((endless.factors(), endless.numbers(), endless.direction()), ([1], [2], [3]))
        self.assertIs(top.problem, self.problem)
        self.assertIs(endless.problem, self.problem)

    def lists(self, value):
        return [Solved(self.problem, value).numbers, Barred(self.problem, value).weights,
                Top(self.problem, value, 0, [], []).factors, Top(self.problem, [], 0, value, []).numbers,
                Top(self.problem, [], 0, [], value).weights, Endless(self.problem, value, [], []).factors,
                Endless(self.problem, [], value, []).numbers, Endless(self.problem, [], [], value).direction]

    def test_lists_of_any_values(self):
        for value in ODD_VALUES + [0, 7, (ZERO, ONE), [ZERO, ONE]]:
            for call in self.lists(value):
                if isinstance(value, tuple):
                    self.assertEqual(call(), list(value))
                    self.assertIs(call().__class__, list)
                else:
                    self.assertEqual(call(), value)
                    self.assertIs(call().__class__, value.__class__)

    def test_lists_are_copied_and_new(self):
        inner = [1]
        value = [inner, (inner,)]
        calls = self.lists(value)
        inner.append(2)
        value.append(3)
        for call in calls:
            self.assertEqual(call(), [[1], ([1],)])
            call().append(4)
            call()[0].append(5)
            call()[1][0].append(6)
            self.assertEqual(call(), [[1], ([1],)])
        number = [1, [2]]
        top = Top(self.problem, [], number, [], [])
        number[1].append(3)
        self.assertEqual(top.number, [1, [2]])

    def test_a_list_that_is_held_twice(self):
        row = [1]
        for call in self.lists([row, row]):
            found = call()
            found[0].append(2)
            self.assertEqual(found[1], [1])

    def test_solved_holds(self):
        for values, holds in [([ZERO, ONE], True), ((ZERO, ONE), True), ([ONE, ONE], False), ([ZERO, (3, 1)], False),
                              ([0, 1], False), ([ZERO], False), ([ZERO, ONE, ONE], False), ([(-1, 1), ONE], False)]:
            self.assertIs(Solved(self.problem, values).holds(), holds)
        for value in ODD_VALUES:
            self.assertIs(Solved(self.problem, value).holds(), False)

    def test_barred_holds(self):
        for weights, holds in [([ONE, ONE, ZERO], True), ((ONE, ONE, ZERO), True), ([(1, 2), (1, 2), ZERO], True),
                               ([ONE, (2, 1), ZERO], False), ([(2, 1), ONE, ZERO], False),
                               ([ONE, ONE, (1, 9)], True), ([ONE, ONE, (1, 8)], False),
                               ([ONE, ONE], False), ([ONE, ONE, ZERO, ZERO], False), ([1, 1, 0], False),
                               ([ONE, ONE, (-1, 1)], False), ([ZERO, ZERO, ZERO], False)]:
            self.assertIs(Barred(self.barred, weights).holds(), holds, weights)
        for value in ODD_VALUES:
            self.assertIs(Barred(self.barred, value).holds(), False)

    def test_barred_by_a_strict_row(self):
        problem = Problem(1, [([1], 2, True), ([-1], -2, False)])
        self.assertIs(Barred(problem, [ONE, ONE]).holds(), True)
        self.assertIs(Barred(problem, [ZERO, ZERO]).holds(), False)
        self.assertIs(Barred(problem, [(2, 1), ONE]).holds(), False)
        self.assertIs(Barred(Problem(1, [([1], 2, False), ([-1], -2, False)]), [ONE, ONE]).holds(), False)
        self.assertIs(Barred(Problem(1, [([1], 0, True), ([1], 0, False)]), [ZERO, ONE]).holds(), False)
        self.assertIs(Barred(Problem(0, [([], 0, True)]), [ONE]).holds(), True)
        self.assertIs(Barred(Problem(0), []).holds(), False)

    def top(self, factors=(1, 2), number=(4, 1), values=(ZERO, (2, 1)), weights=((2, 1), ZERO)):
        return Top(self.problem, factors, number, values, weights).holds()

    def test_top_holds(self):
        self.assertIs(self.top(), True)
        self.assertIs(self.top(factors=[1, (2, 1)]), True)
        self.assertIs(self.top(factors=[ONE, (2, 1)]), True)
        self.assertIs(self.top(values=[ZERO, (2, 1)], weights=[(2, 1), ZERO]), True)
        self.assertIs(self.top(factors=[2, 2], values=[ONE, ONE]), True)
        self.assertIs(self.top(factors=[3, 1], values=[ONE, ONE], weights=[(2, 1), ONE]), True)
        self.assertIs(self.top(factors=[3, 1], values=[ONE, ONE]), False)
        self.assertIs(self.top(factors=[1, 1], number=(2, 1), weights=[ONE, ZERO]), True)
        self.assertIs(self.top(factors=[1, 1], number=(2, 1)), False)

    def test_top_does_not_hold(self):
        for changed in [{"factors": [1, 3]}, {"factors": [1]}, {"factors": [1, 2, 0]}, {"factors": [True, 2]},
                        {"number": 4}, {"number": (5, 1)}, {"number": (8, 2)}, {"number": [4, 1]},
                        {"number": (4, True)},
                        {"values": [ZERO, ONE]}, {"values": [0, 2]}, {"values": [ZERO, (3, 1)]},
                        {"values": [(2, 1), ZERO]}, {"values": [ZERO]}, {"weights": [ONE, ZERO]}, {"weights": [2, 0]},
                        {"weights": [(2, 1)]}, {"weights": [(2, 1), ONE]}, {"weights": [(3, 1), ZERO]},
                        {"weights": [(2, 1), (-1, 1)]}, {"weights": [(2, 1), ZERO, ZERO]}]:
            self.assertIs(self.top(**changed), False, changed)
        for value in ODD_VALUES:
            for name in ("number", "values", "weights"):
                self.assertIs(self.top(**{name: value}), False)
            if value not in ([1, 2], (0, 2)):
                self.assertIs(self.top(factors=value), False, value)

    def endless(self, factors=(1, 0), values=(ZERO, ZERO), direction=(ONE, ONE)):
        return Endless(Problem(2, [([1, -1], 0, True)]), factors, values, direction).holds()

    def test_endless_holds(self):
        self.assertIs(self.endless(), True)
        self.assertIs(self.endless(factors=[(1, 2), ZERO], direction=[ONE, (2, 1)]), True)
        self.assertIs(self.endless(factors=[0, (1, 9)], direction=[ZERO, ONE]), True)
        self.assertIs(self.endless(values=[ONE, ONE]), True)

    def test_endless_does_not_hold(self):
        for changed in [{"factors": [0, 0]}, {"factors": [1, -1]}, {"factors": [1]}, {"factors": [1, 0, 0]},
                        {"values": [ONE, ZERO]}, {"values": [0, 0]}, {"values": [ZERO]}, {"direction": [ONE, ZERO]},
                        {"direction": [1, 1]}, {"direction": [ONE]}, {"direction": [ZERO, ZERO]},
                        {"direction": [(2, 1), ONE]}, {"direction": [(-1, 1), ONE]}, {"direction": [ONE, ONE, ONE]},
                        {"direction": [ZERO, ONE]}]:
            self.assertIs(self.endless(**changed), False, changed)
        for value in ODD_VALUES:
            for name in ("values", "direction"):
                self.assertIs(self.endless(**{name: value}), False)
            if value not in ([1, 2], (1, 0), (2, 4), (0, 2)):
                self.assertIs(self.endless(factors=value), False)

    def test_endless_of_no_unknowns(self):
        self.assertIs(Endless(Problem(0), [], [], []).holds(), False)
        self.assertIs(Top(Problem(0), [], ZERO, [], []).holds(), True)
        self.assertIs(Solved(Problem(0), []).holds(), True)


if __name__ == "__main__":
    unittest.main()
