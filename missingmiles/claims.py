"""What can be said of one script: which steps it can do without, and when doing it again changes nothing."""

from missingmiles.cases import cases
from missingmiles.comparing import are_alike
from missingmiles.errors import InvalidNumber, MilesError, Missing, UnlikeScripts
from missingmiles.facts import check_facts
from missingmiles.pairings import fit
from missingmiles.ratios import is_number


def needless(script, *, facts=()):
    """The indexes of the steps that can be left out, each by itself, in all worlds that keep some facts."""
    _check(script, facts)
    return [at for at in range(len(script)) if _is_same(script, _left(script, at), facts)]


def exchangeable(script, *, facts=()):
    """The indexes of the steps that can be exchanged with the next one, each by itself."""
    _check(script, facts)
    return [at for at in range(len(script) - 1) if _is_same(script, _exchanged(script, at), facts)]


def settles(script, *, most=2, facts=()):
    """The least number of times behind which doing the script once more changes nothing, or None."""
    if not is_number(most, 1, 2):
        raise InvalidNumber(most)
    if script.ends() != script.names() or script.puts:
        raise UnlikeScripts()
    check_facts(facts, script.names(), script.layers)
    for times in range(1, most + 1):
        if are_alike(script * times, script * (times + 1), facts=facts):
            return times
    return None


def _check(script, facts):
    """Raises what is promised even if nothing is compared."""
    check_facts(facts, script.names(), script.layers)
    cases(script)


def _left(script, at):
    """The script without a step, or None if there is no such script."""
    try:
        return script.without(at)
    except (MilesError, Missing):
        return None


def _exchanged(script, at):
    """The script with a step and the next one exchanged, or None if there is no such script."""
    try:
        return script.swapped(at)
    except (MilesError, Missing):
        return None


def _is_same(script, made, facts):
    """Whether what was made of a script, if anything, fits it and leaves the same."""
    return made is not None and fit(script, made) and are_alike(script, made, facts=facts)
