"""Forms: a constant and distances at the beginning, each times a ratio."""

from missingmiles.errors import InvalidForm, InvalidPlace, UnknownName
from missingmiles.ratios import (ONE, ZERO, added, is_length, is_less, is_number, is_scale, multiplied, ratio_of,
                                 ratio_text)
from missingmiles.words import LAYERS, STRANGERS, is_layer, is_name


def _is_point(value):
    """Whether any value is a name or a stranger."""
    return is_name(value) or value in STRANGERS


def _is_key(value):
    if not isinstance(value, tuple) or len(value) != 3:
        return False
    layer, start, goal = value
    return is_layer(layer) and _is_point(start) and _is_point(goal) and start != goal


def _is_part(value):
    return isinstance(value, tuple) and len(value) == 2 and _is_key(value[0]) and is_scale(value[1])


def _point_order(point):
    return (point in STRANGERS, point)


def _part_order(part):
    layer, start, goal = part[0]
    return (LAYERS.index(layer), _point_order(start), _point_order(goal))


def _part_text(key, factor):
    words = " ".join(key)
    if factor == ONE:
        return words
    return f"{ratio_text(factor)} {words}"


def _check_parts(parts):
    for at, value in enumerate(parts):
        if not _is_part(value) or value[0] in [part[0] for part in parts[:at]]:
            raise InvalidForm(value)


def keys_of(points, layers):
    """The keys between some points on some layers, by layers, starts and goals in their order."""
    return [(layer, start, goal) for layer in layers for start in points for goal in points if start != goal]


class Form:
    """A constant of at least 0, and ratios above 0 by keys."""

    def __init__(self, constant=0, parts=()):
        if not is_length(constant):
            raise InvalidForm(constant)
        _check_parts(parts)
        self._constant = ratio_of(constant)
        self._parts = {key: ratio_of(factor) for key, factor in sorted(parts, key=_part_order)}

    @property
    def constant(self):
        """The constant, a ratio of at least 0."""
        return self._constant

    def parts(self):
        """The list of the pairs of a key and a ratio, in their order."""
        return list(self._parts.items())

    def factor(self, key):
        """The ratio of a key, zero for one that is none of the parts."""
        return self._parts.get(key, ZERO)

    def value(self, world, *strangers):
        """The value in a world, in which the strangers have these places."""
        for place in strangers:
            if not is_number(place, 0, world.size - 1):
                raise InvalidPlace(place)
        places = {point: place for point, place in zip(STRANGERS, strangers)}
        for name in world.names():
            places[name] = world.place(name)
        total = self._constant
        for key, factor in self._parts.items():
            total = added(total, multiplied(factor, _distance(world, places, key)))
        return total

    def text(self):
        """The texts of the parts, and of the constant."""
        texts = [_part_text(key, factor) for key, factor in self._parts.items()]
        if not texts or self._constant != ZERO:
            texts.append(ratio_text(self._constant))
        return " + ".join(texts)

    def is_under(self, other):
        """Whether the constant and each part are at most those of another form."""
        if is_less(other.constant, self._constant):
            return False
        return not any([is_less(other.factor(key), factor) for key, factor in self._parts.items()])

    def __add__(self, other):
        keys = [*self._parts, *[key for key in other._parts if key not in self._parts]]
        parts = [(key, added(self.factor(key), other.factor(key))) for key in keys]
        return Form(added(self._constant, other._constant), parts)

    def __mul__(self, other):
        if not is_scale(other):
            raise InvalidForm(other)
        parts = [(key, multiplied(factor, other)) for key, factor in self._parts.items()]
        return Form(multiplied(self._constant, other), parts)

    def __eq__(self, other):
        return isinstance(other, Form) and self._constant == other._constant and self._parts == other._parts

    def __bool__(self):
        return True

    def __repr__(self):
        return f"Form({self.text()})"


def _distance(world, places, key):
    """The distance of a key in a world with some places."""
    layer, start, goal = key
    for point in (start, goal):
        if point not in places:
            raise UnknownName(point)
    return world.far(places[start], places[goal], layer=layer)


def plain_forms(forms):
    """The plain forms of some forms, ascending by their texts."""
    by_text = {form.text(): form for form in forms}
    unlike = list(by_text.values())
    # No two of these are equal, so one that another one is under is not under that one, too.
    plain = [text for text, form in by_text.items() if not _has_under(form, unlike)]
    return [by_text[text] for text in sorted(plain)]


def _has_under(form, forms):
    """Whether one of some forms is under a form unlike it."""
    return any([other.is_under(form) for other in forms if other != form])
