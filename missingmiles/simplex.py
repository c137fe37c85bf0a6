"""The simplex method in whole numbers."""

from math import lcm

from missingmiles.ratios import ratio


def _scale(numbers):
    """The least number by which all ratios become whole."""
    common = 1
    for number in numbers:
        common = lcm(common, number[1])
    return common


def _scaled(numbers, scale):
    return [number[0] * (scale // number[1]) for number in numbers]


def _first(indexes, variables):
    """The index whose variable is the least."""
    return min(indexes, key=lambda index: variables[index])


class Tableau:
    """Rows and goals over unknowns of at least 0, solved for one variable a row.

    The variables are the unknowns and, behind them, a slack for each row: what the row leaves up
    to its bound. An equation says that its own variable, plus the free variables times their
    numbers, is its last number; all numbers stand over one bottom, which keeps them whole. A goal
    is an equation, too: its own variable is the sum that is to become great.

    Choices are greedy at first, which is fast, but may go round in circles. After as many as
    there is patience for, the least variable is taken (Bland's rule), which comes to an end.
    """

    def __init__(self, rows, goals):
        self._scales = [_scale([*factors, bound]) for factors, bound in rows]
        self._goal_scales = [_scale(goal) for goal in goals]
        self._equations = [_scaled([*factors, bound], scale) for (factors, bound), scale in zip(rows, self._scales)]
        for goal, scale in zip(goals, self._goal_scales):
            self._equations.append([-number for number in _scaled(goal, scale)] + [0])
        self._size = len(self._equations[0]) - 1
        self._many = len(rows)
        self._free = list(range(self._size))
        self._solved = list(range(self._size, self._size + self._many))
        self._bottom = 1
        self._patience = 4 * (self._size + self._many)

    def settle(self):
        """Brings all variables to at least 0; tells the equation that bars it, or None."""
        swaps = 0
        while True:
            low = [at for at in range(self._many) if self._equations[at][-1] < 0]
            if not low:
                return None
            greedy = swaps < self._patience
            at = self._lowest(low) if greedy else _first(low, self._solved)
            columns = self._columns_below(at)
            if not columns:
                return at
            column = self._most_helpful(columns, low) if greedy else _first(columns, self._free)
            self._swap(at, column)
            swaps += 1

    def climb(self, goal):
        """Brings a goal as high as it goes; tells the column that raises it endlessly, or None."""
        top = self._many + goal
        swaps = 0
        while True:
            columns = self._columns_below(top)
            if not columns:
                return None
            column = self._steepest(columns, top) if swaps < self._patience else _first(columns, self._free)
            at = self._narrowest(column)
            if at is None:
                return column
            self._swap(at, column)
            swaps += 1

    def _columns_below(self, at):
        """The columns with numbers below 0 in an equation."""
        equation = self._equations[at]
        return [column for column in range(self._size) if equation[column] < 0]

    def _lowest(self, low):
        """The equation whose own variable is the farthest below 0."""
        return min(low, key=lambda at: (self._equations[at][-1], self._solved[at]))

    def _most_helpful(self, columns, low):
        """The column whose variable, as it rises, raises those below 0 the most in all."""
        return min(columns, key=lambda column: (self._fall(column, low), self._free[column]))

    def _fall(self, column, low):
        """How far some variables fall in all, for each 1 of that of the column."""
        return sum([self._equations[at][column] for at in low])

    def _steepest(self, columns, top):
        """The column whose variable, as it rises, raises the goal the most."""
        return min(columns, key=lambda column: (self._equations[top][column], self._free[column]))

    def _narrowest(self, column):
        """The equation whose own variable is the first to reach 0 as that of the column rises, or None."""
        best = None
        for at in range(self._many):
            if self._equations[at][column] > 0 and (best is None or self._is_narrower(at, best, column)):
                best = at
        return best

    def _is_narrower(self, at, best, column):
        one, other = self._equations[at], self._equations[best]
        reach, best_reach = one[-1] * other[column], other[-1] * one[column]
        return reach < best_reach or reach == best_reach and self._solved[at] < self._solved[best]

    def _swap(self, at, column):
        """Solves an equation for the variable of a column in the place of its own one."""
        old = self._equations[at]
        sign = 1 if old[column] > 0 else -1
        lead = [sign * number for number in old]
        bottom = lead[column]
        lead[column] = sign * self._bottom
        self._equations = [lead if k == at else self._without(equation, column, lead, bottom)
                           for k, equation in enumerate(self._equations)]
        self._solved[at], self._free[column] = self._free[column], self._solved[at]
        self._bottom = bottom

    def _without(self, equation, column, lead, bottom):
        """An equation into which the leading one is put for the variable of the column."""
        factor = equation[column]
        if factor == 0 and bottom == self._bottom:
            return equation
        rest = list(equation)
        rest[column] = 0
        # Nothing is left over: numbers and bottoms are determinants of the first, whole numbers.
        return [(number * bottom - factor * other) // self._bottom for number, other in zip(rest, lead)]

    def height(self, goal):
        """The present number of a goal."""
        at = self._many + goal
        return ratio(self._equations[at][-1], self._bottom * self._goal_scales[goal])

    def numbers(self, many):
        """The present numbers of the first so many unknowns."""
        found = {variable: self._equations[at][-1] for at, variable in enumerate(self._solved)}
        return [ratio(found.get(unknown, 0), self._bottom) for unknown in range(many)]

    def direction(self, column, many):
        """By how much the first so many unknowns rise for each 1 of the variable of a column."""
        found = {variable: -self._equations[at][column] for at, variable in enumerate(self._solved)}
        found[self._free[column]] = self._bottom
        return [ratio(found.get(unknown, 0), self._bottom) for unknown in range(many)]

    def goal_weights(self, goal, many):
        """The weights of the first so many rows that keep a goal from being higher."""
        return self._weights_in(self._many + goal, many, self._goal_scales[goal])

    def row_weights(self, at, many):
        """The weights of the first so many rows in the equation of a row."""
        return self._weights_in(at, many, 1)

    def _weights_in(self, at, many, goal_scale):
        # A row has given an equation as much as there is of the row's own slack in it.
        equation = self._equations[at]
        found = {variable: equation[column] for column, variable in enumerate(self._free)}
        if at < self._many:
            found[self._solved[at]] = self._bottom
        slacks = [found.get(self._size + k, 0) for k in range(many)]
        bottom = self._bottom * goal_scale
        return [ratio(slack * scale, bottom) for slack, scale in zip(slacks, self._scales)]
