"""Values of many kinds, for what must be told or refused for any value."""


class Other:
    """An object of a class that the package does not know."""


def odd_values():
    """Values that are no name, size, fact, goal, count, list, dict or point of any use."""
    return [None, True, False, -1, -7, "", "A", "a b", "abcdefghi", "\u00e9", b"a", {1}, frozenset(), Other(),
            Other, len, range(3), iter([]), ..., 10 ** 40 * -1]


def no_names():
    """Values that are no names."""
    return odd_values() + [0, 1, "ab1", "a_b", "a-b", " a", "a ", "a\n", "Abc", "\u0430", [], ["a"], ("a",), {}, {"a": 1}]


def no_counts():
    """Values that are no counts."""
    return odd_values() + ["0", "1", [], [1], {}, (2,)]


def no_dicts():
    """Values that are no dicts."""
    return odd_values() + [0, 1, "a", [], [("a", 1)], (), "1"]


def no_lists():
    """Values that are neither lists nor tuples."""
    return odd_values() + [0, 1, "a", {}, {"a": 1}, "1"]
