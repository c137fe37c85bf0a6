"""What several test files use."""

# Some of "any value": none of these is a number, a ratio, a name, a layer, a step or a table.
ODD_VALUES = [
    None, True, False, "", " ", "1", "1/2", "?", "Foot", "a b", (), [], (1,), [1], [1, 2], (1, 0), (1, -2),
    (2, 4), (0, 2), (1, 2, 3), ("1", "2"), (True, 1), (1, True), (None, None), [[]], ((1, 2),), [(1, 2)],
    ([1], [2]), [[[[["x"]]]]], (("a", (None, [True])),),
]


def raised(case, error, call, *args, **more):
    """The error of a class that a call raises; its class and its code must be just this one."""
    with case.assertRaises(error) as caught:
        call(*args, **more)
    case.assertIs(caught.exception.__class__, error)
    case.assertEqual(caught.exception.code, error.__name__)
    return caught.exception
