"""Buckets: how cut points divide the values of a column, and what the facts of a column tell of each bucket."""

from piecefacts.kinds import HIGHEST, LOWEST, is_between
from piecefacts.ranges import both

MOST_POINTS = 4


class Bucket:
    """What the facts of a column tell of one bucket.

    known are the least and the greatest value of the column, as far as they stand in the bucket (one of them, if
    they are equal). Besides these it has many values, all of them from the range set span, and their sum is rest.
    """

    def __init__(self, span, known, many, rest):
        self.span = span
        self.known = known
        self.many = many
        self.rest = rest


def is_cuts(value):
    """Tell whether any value is a tuple of cut points."""
    if not isinstance(value, tuple) or len(value) > MOST_POINTS:
        return False
    if not all([is_between(point, LOWEST + 1, HIGHEST) for point in value]):
        return False
    return all([before < after for before, after in zip(value, value[1:])])


def place_of(cuts, value):
    """Return the number of the bucket in which a value stands."""
    return len([point for point in cuts if point <= value])


def buckets_of(column):
    """Return the buckets of the facts of a column."""
    cuts, _, least, greatest, pairs = column[1:]
    ends = ends_of(least, greatest)
    lows = [LOWEST, *cuts]
    highs = [point - 1 for point in cuts] + [HIGHEST]
    found = []
    for low, high, (number, total) in zip(lows, highs, pairs):
        known = [value for value in ends if low <= value <= high]
        span = both(((low, high),), ((least, greatest),)) if number else ()
        found.append(Bucket(span, known, number - len(known), total - sum(known)))
    return found


def ends_of(least, greatest):
    """Return the list of the least and the greatest value of a column, as far as there are two values, or one."""
    if least is None:
        return []
    return [least] if least == greatest else [least, greatest]
