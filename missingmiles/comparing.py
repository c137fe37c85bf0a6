"""Comparing two scripts for all worlds."""

from missingmiles.asking import grounds_of
from missingmiles.errors import UnlikeScripts
from missingmiles.facts import check_facts
from missingmiles.means import Mean
from missingmiles.pairings import SIDES, Pairing, fit, places_behind, strangers_in
from missingmiles.verdicts import Alike, Exceeds, Parted

# A form of the second script that is below all of the first one makes the first distance the greater one.
LONGER = ("other",)


def compare(one, other, *, facts=()):
    """An Alike, or a Parted with a world in which the scripts leave unlike distances."""
    rows = []
    for key, answer in _answers(one, other, facts, SIDES):
        if not isinstance(answer, Mean):
            start, goal = places_behind(one, key[4], key[5])
            return Parted(one, other, answer, start, goal, layer=key[3])
        rows.append((key, answer))
    return Alike(one, other, rows, facts=facts)


def are_alike(one, other, *, facts=()):
    """Whether two scripts leave the same in all worlds that keep some facts."""
    return isinstance(compare(one, other, facts=facts), Alike)


def never_longer(one, other, *, facts=()):
    """None if no distance is ever greater behind the first script, otherwise an Exceeds."""
    for key, answer in _answers(one, other, facts, LONGER):
        if not isinstance(answer, Mean):
            start, goal = places_behind(one, key[4], key[5])
            return Exceeds(one, other, answer, start, goal, layer=key[3])
    return None


def _answers(one, other, facts, sides):
    """Generates the keys of an Alike for some sides, each with a mean, or with a world that bars one."""
    if not fit(one, other):
        raise UnlikeScripts()
    check_facts(facts, one.names(), one.layers)
    pairing = Pairing(one, other, facts)
    grounds = grounds_of(one)
    for duo in pairing.duos():
        rows = pairing.duo_rows(duo)
        void = grounds[0].void_mean(rows[0])
        if void is not None:
            yield (("void", *duo), void)
            continue
        for side in sides:
            for key, form, forms in pairing.questions(duo, side):
                many = len(strangers_in(key))
                yield (key, grounds[many].mean_or_world(form, forms, rows[many]))
