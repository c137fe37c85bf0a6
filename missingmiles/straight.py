"""Straight problems: rows on unknowns of at least 0, and answers that can be checked by sums."""

from missingmiles.copies import copied, listed
from missingmiles.errors import InvalidNumber, InvalidRow
from missingmiles.ratios import ONE, ZERO, can_be_ratio, is_less, is_number, is_ratio, ratio_of, ratio_text
from missingmiles.simplex import Tableau
from missingmiles.sums import are_factors, are_weights, ratios_of, weighted, weighted_row

# The goals of the tableau of a problem.
ROOM = 0
SUM = 1


def _row_of(value, size):
    """The row with ratios in the place of numbers, or None for any value that is no row."""
    if not isinstance(value, tuple) or len(value) != 3:
        return None
    factors, bound, strict = value
    if not are_factors(factors, size) or not can_be_ratio(bound) or not isinstance(strict, bool):
        return None
    return (tuple(ratios_of(factors)), ratio_of(bound), strict)


def _rows_of(values, size):
    rows = []
    for at, value in enumerate(values):
        row = _row_of(value, size)
        if row is None:
            raise InvalidRow(at)
        rows.append(row)
    return rows


def _is_kept(row, values, loose):
    factors, bound, strict = row
    total = weighted(factors, values)
    if strict and not loose:
        return is_less(total, bound)
    return not is_less(bound, total)


def _tableau(size, rows, factors):
    """The tableau of a problem, with a sum that is to become great.

    Behind the unknowns there is one more, the room, from 0 to 1: what is left over in each strict
    row. Some values keep all rows if the room can be above 0.
    """
    table_rows = [((*row_factors, ONE if strict else ZERO), bound) for row_factors, bound, strict in rows]
    only_room = (ZERO,) * size + (ONE,)
    table_rows.append((only_room, ONE))
    return Tableau(table_rows, [only_room, (*factors, ZERO)])


def _barring_weights(table, many):
    """The weights with which so many rows contradict one another, or None.

    If it is None, the tableau then stands at values that keep the rows.
    """
    at = table.settle()
    if at is not None:
        return table.row_weights(at, many)
    table.climb(ROOM)
    if table.height(ROOM)[0] > 0:
        return None
    return table.goal_weights(ROOM, many)


class Problem:
    """Unknowns of at least 0, and rows that their values are to keep."""

    MOST = 60

    def __init__(self, size, rows=()):
        if not is_number(size, 0, self.MOST):
            raise InvalidNumber(size)
        self._size = size
        self._rows = _rows_of(rows, size)

    @property
    def size(self):
        """The number of unknowns."""
        return self._size

    def rows(self):
        """The list of the rows: a tuple of factors, a bound and whether it is strict."""
        return list(self._rows)

    def row_with(self, factors, bound, *, strict=False):
        """The problem with a row more behind the others."""
        return Problem(self._size, [*self._rows, (factors, bound, strict)])

    def keeps(self, values, *, loose=False):
        """Whether any value is a list of ratios of at least 0 that keep all rows."""
        if not are_weights(values, self._size):
            return False
        return all([_is_kept(row, values, loose) for row in self._rows])

    def solve(self):
        """A Solved, or a Barred if no values keep all rows."""
        table = _tableau(self._size, self._rows, (ZERO,) * self._size)
        weights = _barring_weights(table, len(self._rows))
        if weights is not None:
            return Barred(self, weights)
        return Solved(self, table.numbers(self._size))

    def greatest(self, factors):
        """A Top or an Endless for a sum of the unknowns, or a Barred if no values keep all rows."""
        if not are_factors(factors, self._size):
            raise InvalidRow(0)
        goal = ratios_of(factors)
        table = _tableau(self._size, self._rows, goal)
        weights = _barring_weights(table, len(self._rows))
        if weights is not None:
            return Barred(self, weights)
        column = table.climb(SUM)
        values = table.numbers(self._size)
        if column is not None:
            return Endless(self, goal, values, table.direction(column, self._size))
        return Top(self, goal, table.height(SUM), values, table.goal_weights(SUM, len(self._rows)))

    def __eq__(self, other):
        return isinstance(other, Problem) and self._size == other._size and self._rows == other._rows

    def __len__(self):
        return len(self._rows)

    def __bool__(self):
        return True

    def __repr__(self):
        return f"Problem({self._size} unknowns, {len(self._rows)} rows)"


class Answer:
    """What is said of a problem; whether it holds can be checked by sums alone."""

    KIND = "open"

    def __init__(self, problem):
        self._problem = problem

    @property
    def problem(self):
        """The problem that is answered."""
        return self._problem

    def told(self):
        """The answer in short."""
        return self.KIND

    def holds(self):
        """Whether the answer is right."""
        return False

    def __bool__(self):
        return False

    def __repr__(self):
        return f"Answer({self.told()})"


class Solved(Answer):
    """Values that keep all rows."""

    KIND = "solved"

    def __init__(self, problem, values):
        super().__init__(problem)
        self._values = copied(values)

    def numbers(self):
        """The list of the values."""
        return listed(self._values)

    def holds(self):
        """Whether the values keep all rows."""
        return self._problem.keeps(self._values)

    def __bool__(self):
        return True


class Barred(Answer):
    """Weights with which the rows contradict one another, so that no values keep all of them."""

    KIND = "barred"

    def __init__(self, problem, weights):
        super().__init__(problem)
        self._weights = copied(weights)

    def weights(self):
        """The list of the weights of the rows."""
        return listed(self._weights)

    def holds(self):
        """Whether the rows contradict one another with the weights."""
        rows = self._problem.rows()
        if not are_weights(self._weights, len(rows)):
            return False
        factors, bound = weighted_row(rows, self._weights, self._problem.size)
        if any([factor[0] < 0 for factor in factors]):
            return False
        is_strict = any([row[2] and weight[0] > 0 for row, weight in zip(rows, self._weights)])
        return bound[0] < 0 or bound[0] == 0 and is_strict


class Top(Solved):
    """Values with the greatest sum, and weights that show that none is greater."""

    KIND = "top"

    def __init__(self, problem, factors, number, values, weights):
        super().__init__(problem, values)
        self._factors = copied(factors)
        self._weights = copied(weights)
        self.number = copied(number)

    def factors(self):
        """The list of the factors of the sum."""
        return listed(self._factors)

    def weights(self):
        """The list of the weights of the rows."""
        return listed(self._weights)

    def told(self):
        """The answer in short, with the text of the number."""
        if is_ratio(self.number):
            return f"{self.KIND} {ratio_text(self.number)}"
        return self.KIND

    def holds(self):
        """Whether the values have the sum, and the weighted sum of the rows bars a greater one."""
        rows = self._problem.rows()
        size = self._problem.size
        if not self._problem.keeps(self._values, loose=True) or not is_ratio(self.number):
            return False
        if not are_factors(self._factors, size) or not are_weights(self._weights, len(rows)):
            return False
        factors, bound = weighted_row(rows, self._weights, size)
        if any([is_less(one, other) for one, other in zip(factors, self._factors)]):
            return False
        return weighted(self._factors, self._values) == self.number and bound == self.number


class Endless(Solved):
    """Values and a direction in which a sum grows without end."""

    KIND = "endless"

    def __init__(self, problem, factors, values, direction):
        super().__init__(problem, values)
        self._factors = copied(factors)
        self._direction = copied(direction)

    def factors(self):
        """The list of the factors of the sum."""
        return listed(self._factors)

    def direction(self):
        """The list of what is added to the values."""
        return listed(self._direction)

    def holds(self):
        """Whether the direction keeps all rows, however far, and raises the sum."""
        size = self._problem.size
        if not self._problem.keeps(self._values, loose=True):
            return False
        if not are_factors(self._factors, size) or not are_weights(self._direction, size):
            return False
        if any([weighted(row[0], self._direction)[0] > 0 for row in self._problem.rows()]):
            return False
        return weighted(self._factors, self._direction)[0] > 0
