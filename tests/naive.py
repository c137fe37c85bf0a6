"""The cases of scripts, worked out word by word from promise [12], with forms only."""

from missingmiles.forms import Form, plain_forms

LAYERS = ("foot", "cart")


class Way:
    """A case whose way goes on with the steps that are left."""

    def __init__(self, rows, points, named, far, left):
        self.rows = rows
        self.points = points
        self.named = named
        self.far = far
        self.left = left

    def distance(self, layer, start, goal):
        return [Form()] if start == goal else self.far[(layer, start, goal)]


def sums(*lists):
    found = [Form()]
    for forms in lists:
        found = plain_forms([one + other for one in found for other in forms])
    return found


def naive_cases(script):
    """The ways of all cases; only for scripts with few forms."""
    names = script.names()
    points = [*names, "?1", "?2"]
    layers = LAYERS[:script.layers]
    far = {(layer, x, y): [Form(0, [((layer, x, y), 1)])] for layer in layers for x in points for y in points if x != y}
    ways = [Way([], points, {name: name for name in names}, far, list(script.steps()))]
    while any(way.left for way in ways):
        at = next(k for k, way in enumerate(ways) if way.left)
        ways[at:at + 1] = behind(ways[at], layers)
    return ways


def behind(way, layers):
    step, *left = way.left
    if step[0] == "repeat":
        return [Way(way.rows, way.points, way.named, way.far, [*step[2] * step[1], *left])]
    if step[0] == "if":
        _, layer, a, b, k, first, second = step
        asked = way.distance(layer, way.named[a], way.named[b])
        more = [Way([*way.rows, (form, Form(k), False)], way.points, way.named, way.far, [*first, *left])
                for form in asked]
        rows = [*way.rows, *[(Form(k), form, True) for form in asked]]
        return [*more, Way(rows, way.points, way.named, way.far, [*second, *left])]
    return [leaf(way, step, layers, left)]


def road(far, points, layer, a, b, lengths):
    def d(x, y):
        return [Form()] if x == y else far[(layer, x, y)]
    table = dict(far)
    for x in points:
        for y in points:
            if x != y:
                table[(layer, x, y)] = plain_forms([*d(x, y), *sums(d(x, a), lengths, d(b, y))])
    return table


def leaf(way, step, layers, left):
    word, *items = step
    points, named, far = list(way.points), dict(way.named), dict(way.far)
    pairs = [(x, y) for x in points for y in points if x != y]
    if word in ("road", "ride"):
        layer, a, b, k = items
        lengths = [Form(k)]
        if word == "ride":
            lengths = sums(lengths, way.distance(layers[1 - layers.index(layer)], named[a], named[b]))
        far = road(far, points, layer, named[a], named[b], lengths)
    elif word == "place":
        p, a, k, j = items
        new = "+" + str(1 + sum(point.startswith("+") for point in points))
        for layer in layers:
            for x in points:
                far[(layer, x, new)] = sums(way.distance(layer, x, named[a]), [Form(k)])
                far[(layer, new, x)] = sums([Form(j)], way.distance(layer, named[a], x))
        points, named[p] = [*points[:-2], new, *points[-2:]], new
    elif word == "same":
        a, b = items
        for layer in layers:
            far = road(far, points, layer, named[a], named[b], [Form()])
            far = road(far, points, layer, named[b], named[a], [Form()])
        del named[b]
    elif word == "forget":
        del named[items[0]]
    elif word == "cap":
        for x, y in pairs:
            far[(items[0], x, y)] = plain_forms([*far[(items[0], x, y)], Form(items[1])])
    elif word == "scale":
        for x, y in pairs:
            far[(items[0], x, y)] = plain_forms([form * items[1] for form in far[(items[0], x, y)]])
    else:
        for layer in layers if word == "turn" else items:
            for x, y in pairs:
                turned = way.far[(layer, y, x)]
                far[(layer, x, y)] = turned if word == "turn" else sums(way.far[(layer, x, y)], turned)
    return Way(way.rows, points, named, far, left)
