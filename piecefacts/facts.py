"""Facts: what is known of the rows of a piece without their values."""

from piecefacts.buckets import buckets_of, is_cuts, place_of
from piecefacts.kinds import HIGHEST, LOWEST, is_between, is_column, is_number
from piecefacts.ranges import holds, sums

MOST_ROWS = 20
MOST_COLUMNS = 4


def facts_of(columns, cuts, rows):
    """Return the facts of rows, with the cut points of each column."""
    lines = list(zip(*rows))
    found = [column_facts(column, points, values) for column, points, values in zip(columns, cuts, lines)]
    return len(rows), tuple(found)


def is_facts(value):
    """Tell whether any value is the facts of some rows."""
    if not isinstance(value, tuple) or len(value) != 2:
        return False
    size, columns = value
    if not is_between(size, 1, MOST_ROWS) or not isinstance(columns, tuple):
        return False
    if not 1 <= len(columns) <= MOST_COLUMNS or not all([is_column_facts(column, size) for column in columns]):
        return False
    return len(set(names_in(value))) == len(columns)


def names_in(facts):
    """Return the columns that facts have, in their sequence."""
    return [column[0] for column in facts[1]]


def column_in(facts, name):
    """Return the facts of the column with this name, which is there."""
    return facts[1][names_in(facts).index(name)]


def column_facts(column, points, values):
    """Return the facts of a column with these values."""
    there = [value for value in values if value is not None]
    groups = [[value for value in there if place_of(points, value) == k] for k in range(len(points) + 1)]
    pairs = tuple([(len(group), sum(group)) for group in groups])
    return column, points, len(values) - len(there), min(there, default=None), max(there, default=None), pairs


def is_column_facts(value, size):
    """Tell whether any value is the facts of a column of so many rows."""
    if not isinstance(value, tuple) or len(value) != 6:
        return False
    column, cuts, missing, least, greatest, pairs = value
    if not is_column(column) or not is_cuts(cuts) or not is_between(missing, 0, size):
        return False
    if not are_pairs(pairs, len(cuts) + 1, size) or missing + sum([pair[0] for pair in pairs]) != size:
        return False
    if not are_ends(least, greatest, missing == size):
        return False
    return all([can_be(bucket) for bucket in buckets_of(value)])


def are_pairs(value, many, size):
    """Tell whether any value is a tuple of so many pairs of a number of values, up to size, and a sum."""
    if not isinstance(value, tuple) or len(value) != many:
        return False
    if not all([isinstance(pair, tuple) and len(pair) == 2 for pair in value]):
        return False
    return all([is_between(number, 0, size) and is_number(total) for number, total in value])


def are_ends(least, greatest, all_missing):
    """Tell whether any two values can be the least and the greatest value of a column."""
    if all_missing:
        return least is None and greatest is None
    return is_between(least, LOWEST, HIGHEST) and is_between(greatest, least, HIGHEST)


def can_be(bucket):
    """Tell whether a bucket can have the values that it is said to have."""
    return bucket.many >= 0 and holds(sums(bucket.span, bucket.many), bucket.rest)
