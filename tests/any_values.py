"""Values of any kind, as DOC.md section 2 means them."""


def nested(inner, depth):
    """Return a value nested in lists, tuples and dicts, so deep."""
    value = inner
    for k in range(depth):
        value = [[value], (value,), {"a": value}][k % 3]
    return value


def is_same(one, other):
    """Tell whether two values are equal and of the same kinds throughout, so that True is not 1."""
    if type(one) is not type(other) or one != other:
        return False
    if isinstance(one, dict):
        return is_same(list(one.items()), list(other.items()))
    return not isinstance(one, (list, tuple)) or all(is_same(*pair) for pair in zip(one, other))


ANY_VALUES = [
    0, 1, -1, 5, 9999, -9999, 10000, 10 ** 9, -(10 ** 30), 10 ** 6000,
    True, False, None,
    "", " ", "a", "A", "and", "or", "abcdefgh", "abcdefghi", "a1", "1", "-", "?", "\n", "\u00e4", "\u0663", "\ud800",
    "a=1", "a=1..2", "and=1", "x" * 5000, "(" * 5000, "9" * 5000,
    (), (1,), (1, 2), (True, False), ((),), ((1, 2),), ((1, 2), (4, 5)), ("a", "b"), (None, None), ((None, None),),
    ((1, 2, 3),), (((1, 2),),), ((1, "2"),), ([1, 2],), ((False, True),), ((1, True),), ((0, 1), None), ((2, 1),),
    [], [1], [(1, 2)], [[1, 2]], ["a"], [None], [[], {}, ()],
    {}, {"a": 1}, {1: (1, 2)}, {(1, 2): [3]}, {"a": {"b": [None, True]}},
    nested(1, 20), nested((1, 2), 19), nested("a", 20), nested(None, 20),
]
