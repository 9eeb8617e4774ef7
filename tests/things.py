"""Things that are none of what is asked for, of all kinds that callers may pass."""

from lastbell.houses import House


def a_function():
    return None


def deep(many):
    thing = []
    for _ in range(many):
        thing = [thing]
    return thing


def no_numbers():
    """Things that are no number."""
    return [True, False, -1, -10 ** 9, None, "0", "", [], (), [0], (1,), {}, {0: 0}, a_function, example_house(),
            deep(45)]


def no_lists():
    """Things that are neither a list nor a tuple."""
    return [None, True, False, 0, 1, -1, "", "ab", "0123", {}, {0: 0}, {"a": 1}, a_function, example_house()]


def no_houses():
    return [None, True, 0, 5, "House", [], (), {}, a_function, deep(45), (2, [], []), [2, [(0, 1, 1, 1)], []], House]


def example_house():
    return House(2, [(0, 1, 1, 1)], [("in", 0, 0), ("out", 1, 0)])
