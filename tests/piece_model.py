"""What is possible by facts, found by laying out all values that a piece could have, to compare with the package."""

import functools
import itertools
import re

from tests.string_model import runs, taken


def facts_by_hand(columns, cuts, rows):
    """Return the facts of rows."""
    return len(rows), tuple(column_by_hand(name, points, [row[k] for row in rows])
                            for k, (name, points) in enumerate(zip(columns, cuts)))


def column_by_hand(name, points, values):
    """Return the facts of a column with these values."""
    there = sorted(value for value in values if value is not None)
    ends = [-10 ** 9, *points, 10 ** 9]
    groups = [[value for value in there if low <= value < high] for low, high in zip(ends, ends[1:])]
    least, greatest = (there[0], there[-1]) if there else (None, None)
    return name, points, values.count(None), least, greatest, tuple((len(group), sum(group)) for group in groups)


def is_integer(value, low=-10 ** 9, high=10 ** 9):
    """Tell whether a value is an integer, and no bool, from low to high."""
    return type(value) is int and low <= value <= high


def are_facts(value):
    """Tell whether any value is facts; the values must lie close together, as they are laid out."""
    if type(value) is not tuple or len(value) != 2 or not is_integer(value[0], 1, 20) or type(value[1]) is not tuple:
        return False
    if not 1 <= len(value[1]) <= 4 or not all(have_form(column, value[0]) for column in value[1]):
        return False
    names = [column[0] for column in value[1]]
    return all(names.count(name) == 1 for name in names) and all(inside_counts(column, ()) for column in value[1])


def have_form(column, size):
    """Tell whether any value has the form of the facts of a column, and the numbers of its values add up to size."""
    if type(column) is not tuple or len(column) != 6:
        return False
    name, cuts, missing, least, greatest, pairs = column
    if type(name) is not str or not re.fullmatch("(?!and$|or$)[a-z]{1,8}", name, re.A) or "\n" in name:
        return False
    if type(cuts) is not tuple or not all(is_integer(point, -9998, 9999) for point in cuts):
        return False
    if len(cuts) > 4 or list(cuts) != sorted(set(cuts)):
        return False
    if type(pairs) is not tuple or len(pairs) != len(cuts) + 1 or not is_integer(missing, 0, size):
        return False
    if not all(type(pair) is tuple and len(pair) == 2 and is_integer(pair[0], 0, size) and is_integer(pair[1])
               for pair in pairs):
        return False
    if missing + sum(number for number, _ in pairs) != size:
        return False
    if least is None or greatest is None:
        return least is None and greatest is None and missing == size
    return missing < size and is_integer(least, -9999, 9999) and is_integer(greatest, least, 9999)


def spans(column):
    """Return for each bucket the values that may stand in it."""
    _, cuts, _, least, greatest, pairs = column
    if least is None:
        return [range(0) for _ in pairs]
    ends = [-9999, *cuts, 10000]
    return [range(max(low, least), min(high - 1, greatest) + 1) for low, high in zip(ends, ends[1:])]


def inside_counts(column, numbers):
    """Return all possible numbers of values of a column that are among numbers, value by value and bucket by bucket."""
    counts = {0}
    for span, (number, total) in zip(spans(column), column[5]):
        # For each pair (how many values, how many of them inside): the bits of their possible sums above the least.
        states = {(0, 0): 1}
        base = span[0] if span else 0
        for value in span:
            states = with_value(states, value - base, value in numbers, value in column[3:5], number)
        wanted = total - number * base
        if not span and number or wanted < 0:
            return set()
        found = {inside for (many, inside), bits in states.items() if many == number and bits >> wanted & 1}
        counts = {one + other for one in counts for other in found}
    return counts


def with_value(states, value, inside, needed, most):
    """Return the states behind a value, which may stand there any number of times, but once if it is needed."""
    found = {}
    for (many, inner), bits in states.items():
        for times in range(1 if needed else 0, most - many + 1):
            key = many + times, inner + (times if inside else 0)
            found[key] = found.get(key, 0) | bits << times * value
    return found


def model_column_counts(column, condition):
    """Return all possible numbers of rows of a column that meet a condition, given as a string."""
    values = taken(condition)
    return {count + (column[2] if None in values else 0) for count in inside_counts(column, values - {None})}


@functools.lru_cache(maxsize=None)
def sequences(column, size):
    """Return all sequences of values that have the facts of a column."""
    domain = [] if column[3] is None else list(range(column[3], column[4] + 1))
    found = [values for values in itertools.product([None, *domain], repeat=size)
             if column_by_hand(column[0], column[1], list(values)) == column]
    assert found
    return found


def conditions_in(question):
    """Return a dict with the string of the condition on each column of a question."""
    return {word.split("=")[0]: word for word in re.findall(r"[a-z]+=[^ ()]+", question.string)}


@functools.lru_cache(maxsize=None)
def truth_table(string):
    """Return, for each tuple of answers to the conditions by column, whether the question of a string is met."""
    names = sorted(re.findall("([a-z]+)=", string))
    table = {}
    for answers in itertools.product((True, False), repeat=len(names)):
        by_name = dict(zip(names, answers))
        table[answers] = eval(re.sub(r"([a-z]+)=[^ ()]+", lambda match: str(by_name[match[1]]), string))
    return table


def outcomes(question, facts, column=None):
    """Return all pairs of which rows of a candidate meet a question, and which values they have in a column."""
    size, columns = facts
    by_name = {part[0]: part for part in columns}
    conditions = {} if question is None else {name: taken(word) for name, word in conditions_in(question).items()}
    names = sorted(conditions)
    lines = []
    for name in names:
        found = sequences(by_name[name], size)
        lines.append({(tuple(value in conditions[name] for value in values), values if name == column else None)
                      for values in found})
    if column not in names:
        lines.append({((), values) for values in (sequences(by_name[column], size) if column else [None])})
    table = {(): True} if question is None else truth_table(question.string)
    pairs = set()
    for chosen in itertools.product(*lines):
        met = tuple(table[tuple(line[0][k] for line in chosen[:len(names)])] for k in range(size))
        pairs.add((met, next((line[1] for line in chosen if line[1] is not None), None)))
    return pairs


def model_counts(pairs, live):
    """Return the possible counts by all outcomes."""
    return tuple(sorted({sum(met[:live]) for met, _ in pairs}))


def model_values(pairs, live):
    """Return the range set of the possible values by all outcomes."""
    return tuple(runs({values[k] for met, values in pairs for k in range(live) if met[k]} - {None}))


def model_totals(pairs, live):
    """Return the range set of the possible totals by all outcomes."""
    return tuple(runs({sum(values[k] or 0 for k in range(live) if met[k]) for met, values in pairs}))


def model_settles(question, facts, live, least, greatest, value):
    """Tell whether any value is evidence for these bounds; its range sets must be small, as they are laid out."""
    conditions = conditions_in(question)
    by_name = {column[0]: column for column in facts[1]}
    if type(value) is not tuple or len(value) != len(conditions):
        return False
    vectors = []
    for name, part in zip(sorted(conditions), value):
        counts = counts_by_evidence(by_name[name], taken(conditions[name]), part)
        if counts is None:
            return False
        vectors.append([answers for answers in itertools.product((True, False), repeat=facts[0])
                        if sum(answers) in counts])
    table = truth_table(question.string)
    found = {sum(table[answers] for answers in list(zip(*chosen))[:live]) for chosen in itertools.product(*vectors)}
    return all(least <= count <= greatest for count in found)


def counts_by_evidence(column, values, part):
    """Return the numbers of rows that may meet a condition by its part of evidence, None if this is none."""
    if type(part) is not tuple or len(part) != len(column[5]):
        return None
    counts = {column[2] if None in values else 0}
    for span, (number, total), pair in zip(spans(column), column[5], part):
        known = [end for end in sorted(set(column[3:5]) - {None}) if end in span and number]
        many = number - len(known)
        if type(pair) is not tuple or len(pair) != 2:
            return None
        within = laid_out(pair[0], [entry for entry in span if entry in values], many)
        outside = laid_out(pair[1], [entry for entry in span if entry not in values], many)
        if within is None or outside is None:
            return None
        rest = total - sum(known)
        sure = len([entry for entry in known if entry in values])
        found = {sure + k for k in range(many + 1) if any(rest - share in outside[many - k] for share in within[k])}
        counts = {one + other for one in counts for other in found}
    return counts


def laid_out(sums, values, many):
    """Return the sets of range sets that contain all sums of 0, of 1 .. many values, None if they do not."""
    if type(sums) is not tuple or len(sums) != many + 1 or not all(is_range_set(part) for part in sums):
        return None
    found = [{number for low, high in part for number in range(low, high + 1)} for part in sums]
    if found[0] != {0}:
        return None
    right = all(one + value in after for before, after in zip(found, found[1:]) for one in before for value in values)
    return found if right else None


def is_range_set(value):
    """Tell whether any value is a range set."""
    if type(value) is not tuple:
        return False
    for pair in value:
        if type(pair) is not tuple or len(pair) != 2 or not all(is_integer(end) for end in pair):
            return False
    return all(low <= high for low, high in value) and all(
        before[1] + 1 < after[0] for before, after in zip(value, value[1:]))


def all_tuples(value):
    """Tell whether a value is built from integers, strings, None and tuples alone."""
    if type(value) is tuple:
        return all(all_tuples(part) for part in value)
    return value is None or type(value) in (int, str)


def variants(value, others):
    """Return all values that are like a nested tuple, but for one place, where one of others(part) stands."""
    found = list(others(value))
    if type(value) is tuple:
        for k, part in enumerate(value):
            found += [value[:k] + (other,) + value[k + 1:] for other in variants(part, others)]
    return found
