"""Laying out candidates: rows that have given facts, and of which a given number meets a question."""

from piecefacts.buckets import buckets_of
from piecefacts.clauses import Condition, conditions_of
from piecefacts.counting import added_counts, column_counts, column_evidence, counts_by_bucket, joint_span
from piecefacts.counting import live_span, outside_span, question_counts, running_counts, within_span
from piecefacts.ranges import completed, holds


def candidate_with(question, facts, live, count, evidence):
    """Return a candidate of which just count of the first live rows meet a question; evidence is exact."""
    size, columns = facts
    by_column = column_counts(question, facts, evidence)
    rows = rows_for_question(question_counts(question, size, by_column), size, live, count)
    rows_by_column = rows_for_conditions(question, rows, size, by_column)
    conditions = {condition.column: condition for condition in conditions_of(question)}
    sums_by_column = dict(zip(question.columns, evidence))
    lines = []
    for column in columns:
        name = column[0]
        if name in conditions:
            lines.append(values_for(conditions[name], column, sums_by_column[name], rows_by_column[name]))
        else:
            # Any values will do: so many rows, namely none, meet a condition that takes nothing.
            nothing = Condition(name, (), False)
            lines.append(values_for(nothing, column, column_evidence(nothing, column), []))
    return tuple(zip(*lines))


def rows_for_question(counts, size, live, count):
    """Return numbers of rows, as many as can meet the question, of which count are among the first live ones."""
    fitting = [total for total in counts if is_in_span(count, live_span(total, size, live))]
    return list(range(count)) + list(range(live, live + fitting[0] - count))


def rows_for_conditions(question, rows, size, by_column):
    """Return for each column of a question the rows that are to meet its condition, so that just rows meet it."""
    if isinstance(question, Condition):
        return {question.column: rows}
    found = {}
    for part, part_rows in rows_for_parts(question, rows, size, by_column):
        found.update(rows_for_conditions(part, part_rows, size, by_column))
    return found


def rows_for_parts(question, rows, size, by_column):
    """Return pairs of a part of an and or an or and the rows that are to meet it, so that just rows meet them all."""
    running = running_counts(question, size, by_column)
    found = []
    for k in range(len(question.parts) - 1, 0, -1):
        part = question.parts[k]
        rows, last = divided(question.word, rows, size, running[k - 1], question_counts(part, size, by_column))
        found.append((part, last))
    return [*found, (question.parts[0], rows)]


def divided(word, rows, size, ones, others):
    """Return rows for two parts, as many as can meet each of them, so that just rows meet them together."""
    many = len(rows)
    pairs = [(one, other) for one in ones for other in others]
    one, other = [pair for pair in pairs if is_in_span(many, joint_span(word, pair[0], pair[1], size))][0]
    if word == "or":
        return rows[:one], rows[many - other:]
    free = other_rows(rows, size)
    return rows + free[:one - many], rows + free[one - many:one - many + other - many]


def other_rows(rows, size):
    """Return the numbers of the rows that are not among rows."""
    return [row for row in range(size) if row not in rows]


def is_in_span(number, span):
    """Tell whether a number is within a pair of bounds."""
    return span[0] <= number <= span[1]


def values_for(condition, column, evidence, rows):
    """Return values for a column, row by row, of which just those in rows meet a condition."""
    missing = [None] * column[2]
    met = missing if condition.missing else []
    unmet = [] if condition.missing else missing
    shares = shares_of(counts_by_bucket(condition, column, evidence), len(rows) - len(met))
    for bucket, pair, share in zip(buckets_of(column), evidence, shares):
        within, outside = bucket_values(condition, bucket, pair, share)
        met = met + within
        unmet = unmet + outside
    size = len(met) + len(unmet)
    placed = dict(zip(rows + other_rows(rows, size), met + unmet))
    return [placed[row] for row in range(size)]


def shares_of(choices, total):
    """Return one number of each of the choices, so that their sum is total, which it can be."""
    running = [[0]]
    for numbers in choices:
        running.append(added_counts(running[-1], numbers))
    found = []
    for numbers, before in reversed(list(zip(choices, running))):
        found.append([number for number in numbers if total - number in before][0])
        total = total - found[-1]
    return found[::-1]


def bucket_values(condition, bucket, pair, count):
    """Return the values of a bucket, count of them in the ranges of a condition and the others not, in two lists."""
    within, outside = pair
    met = [value for value in bucket.known if holds(condition.ranges, value)]
    unmet = [value for value in bucket.known if not holds(condition.ranges, value)]
    inner = count - len(met)
    outer = bucket.many - inner
    share = completed(within[inner], outside[outer], bucket.rest)[0][0]
    met = met + summands(within_span(condition, bucket), within, inner, share)
    return met, unmet + summands(outside_span(condition, bucket), outside, outer, bucket.rest - share)


def summands(ranges, totals, many, total):
    """Return many integers of ranges with this total; totals are the sums of 0, of 1, and so on of its integers."""
    found = []
    for left in range(many - 1, -1, -1):
        found.append(completed(ranges, totals[left], total)[0][0])
        total = total - found[-1]
    return found
