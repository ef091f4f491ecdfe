"""Range sets: finite sets of integers, as ascending pairs (low, high) that do not touch."""

from piecefacts.bits import added_by_bits
from piecefacts.kinds import is_number


def is_ranges(value):
    """Tell whether any value is a range set."""
    if not isinstance(value, tuple) or not all([is_pair(pair) for pair in value]):
        return False
    return all([before[1] + 2 <= after[0] for before, after in zip(value, value[1:])])


def holds(ranges, number):
    """Tell whether an integer is in a range set."""
    first, behind = 0, len(ranges)
    while first < behind:
        middle = (first + behind) // 2
        if ranges[middle][1] < number:
            first = middle + 1
        else:
            behind = middle
    return first < len(ranges) and ranges[first][0] <= number


def both(one, other):
    """Return the range set of the integers in both."""
    found = []
    k = n = 0
    while k < len(one) and n < len(other):
        low = max(one[k][0], other[n][0])
        high = min(one[k][1], other[n][1])
        if low <= high:
            found.append((low, high))
        if one[k][1] < other[n][1]:
            k += 1
        else:
            n += 1
    return tuple(found)


def either(one, other):
    """Return the range set of the integers in at least one."""
    return united(sorted(one + other))


def without(one, other):
    """Return the range set of the integers in one and not in the other."""
    if not one:
        return ()
    return both(one, gaps(other, one[0][0], one[-1][1]))


def added(one, other):
    """Return the range set of all sums of an integer of one and an integer of the other."""
    if not one or not other:
        return ()
    lowest = one[0][0] + other[0][0]
    highest = one[-1][1] + other[-1][1]
    # Bits take room for each integer from lowest to highest, so they only serve crowded sums.
    if len(one) * len(other) > highest - lowest:
        return added_by_bits(one, other)
    return united(sorted([(low + from_low, high + to_high) for low, high in one for from_low, to_high in other]))


def sums(ranges, many):
    """Return the range set of all sums of many integers of a range set."""
    total = ((0, 0),)
    for _ in range(many):
        total = added(total, ranges)
    return total


def sums_up_to(ranges, many):
    """Return the tuple of the range sets of all sums of 0, of 1, and so on to many integers of a range set."""
    found = [((0, 0),)]
    for _ in range(many):
        found.append(added(found[-1], ranges))
    return tuple(found)


def completed(one, other, total):
    """Return the range set of the integers of one to which an integer of the other can be added to give total."""
    return both(one, tuple([(total - high, total - low) for low, high in other[::-1]]))


def is_pair(value):
    """Tell whether any value is a pair (low, high) of integers, low not greater than high."""
    if not isinstance(value, tuple) or len(value) != 2:
        return False
    low, high = value
    return is_number(low) and is_number(high) and low <= high


def united(pairs):
    """Return the range set of the integers of pairs, which ascend but may touch or lie over one another."""
    if not pairs:
        return ()
    found = []
    low, high = pairs[0]
    for next_low, next_high in pairs[1:]:
        if next_low > high + 1:
            found.append((low, high))
            low, high = next_low, next_high
        else:
            high = max(high, next_high)
    return (*found, (low, high))


def gaps(ranges, low, high):
    """Return the range set of the integers from low to high that are not in a range set."""
    inner = both(ranges, ((low, high),))
    starts = [low] + [pair[1] + 1 for pair in inner]
    ends = [pair[0] - 1 for pair in inner] + [high]
    return tuple([(start, end) for start, end in zip(starts, ends) if start <= end])
