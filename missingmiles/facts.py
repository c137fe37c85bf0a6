"""Facts: what has been measured of the distances between names, and what follows from it."""

from missingmiles.cases import triangles
from missingmiles.checks import check_layers, check_names
from missingmiles.errors import InvalidFact, InvalidLayer, InvalidNumber, NoWorld, UnknownName
from missingmiles.forms import Form, keys_of
from missingmiles.questions import problem_of, world_with
from missingmiles.ratios import ONE, ZERO, can_be_ratio, is_less, is_number, multiplied
from missingmiles.straight import Problem
from missingmiles.words import LAYERS, is_layer

WORDS = ("most", "least")
MOST_FACTOR = 9


def _is_part(value, names, layers):
    if not isinstance(value, tuple) or len(value) != 4:
        return False
    layer, start, goal, factor = value
    if not is_layer(layer, layers) or start not in names or goal not in names or start == goal:
        return False
    return is_number(factor, -MOST_FACTOR, MOST_FACTOR) and factor != 0


def _are_parts(value, names, layers):
    if not isinstance(value, tuple) or not all([_is_part(part, names, layers) for part in value]):
        return False
    keys = [part[:3] for part in value]
    return all([key not in keys[:at] for at, key in enumerate(keys)])


def is_fact(value, names, layers=1):
    """Whether any value is a fact about some names on so many layers."""
    if not isinstance(value, tuple) or len(value) != 3:
        return False
    word, parts, bound = value
    return word in WORDS and _are_parts(parts, names, layers) and can_be_ratio(bound)


def check_facts(facts, names, layers):
    """Checks any values as facts about some names on so many layers."""
    for at, value in enumerate(facts):
        if not is_fact(value, names, layers):
            raise InvalidFact(at)


def fact_row(fact):
    """The row of a fact."""
    word, parts, bound = fact
    sign = 1 if word == "most" else -1
    most = multiplied(bound, sign)
    signed = [(key, sign * factor) for *key, factor in parts]
    low = [(tuple(key), factor) for key, factor in signed if factor > 0]
    high = [(tuple(key), -factor) for key, factor in signed if factor < 0]
    if most[0] < 0:
        return (Form(multiplied(most, -1), low), Form(0, high), False)
    return (Form(0, low), Form(most, high), False)


def fact_rows(facts):
    """The list of the rows of facts, in their order."""
    return [fact_row(fact) for fact in facts]


def keeps(world, facts):
    """Whether a world keeps some facts."""
    check_facts(facts, world.names(), world.layers)
    return all([not is_less(high.value(world), low.value(world)) for low, high, _ in fact_rows(facts)])


def survey_problem(names, facts, *, layers=1):
    """The problem whose unknowns are the distances of some names in the worlds that keep some facts."""
    check_names(names)
    check_layers(layers)
    check_facts(facts, names, layers)
    ascending = sorted(names)
    return problem_of(keys_of(ascending, LAYERS[:layers]), [*triangles(ascending, layers), *fact_rows(facts)])


def survey(names, facts, *, layers=1):
    """A world with some names for its places that keeps some facts."""
    answer = survey_problem(names, facts, layers=layers).solve()
    if not names:
        raise InvalidNumber(0)
    if not answer:
        raise NoWorld()
    ascending = sorted(names)
    used = LAYERS[:layers]
    return world_with(ascending, ascending, used, keys_of(ascending, used), answer.numbers())


def extreme(names, facts, start, goal, *, layer="foot", layers=1, greatest=True):
    """The greatest or the least distance between two names in the worlds that keep some facts."""
    problem = survey_problem(names, facts, layers=layers)
    if not is_layer(layer, layers):
        raise InvalidLayer(layer)
    for name in (start, goal):
        if name not in names:
            raise UnknownName(name)
    factor = ONE if greatest else multiplied(ONE, -1)
    keys = keys_of(sorted(names), LAYERS[:layers])
    return problem.greatest([factor if key == (layer, start, goal) else ZERO for key in keys])


def surely(names, facts, fact, *, layers=1):
    """Whether each world that keeps some facts keeps one more."""
    problem = survey_problem(names, [*facts, fact], layers=layers)
    rows = problem.rows()
    factors, bound, _ = rows[-1]
    broken = ([multiplied(factor, -1) for factor in factors], multiplied(bound, -1), True)
    return not Problem(problem.size, [*rows[:-1], broken]).solve()
