"""How many rows can meet a question: counted by sums of values, or by evidence in the place of these sums."""

from piecefacts.buckets import buckets_of
from piecefacts.clauses import Condition, conditions_of
from piecefacts.errors import BadCount, NoColumn
from piecefacts.facts import column_in, names_in
from piecefacts.kinds import is_between
from piecefacts.ranges import both, completed, holds, sums_up_to, without


def check_question(question, facts):
    """Refuse a question that has a column that the facts do not have."""
    for column in question.columns:
        check_column(column, facts)


def check_column(value, facts):
    """Refuse any value that is no column of the facts."""
    if value not in names_in(facts):
        raise NoColumn(value)


def check_live(value, facts):
    """Refuse any value that cannot be the number of the live rows."""
    if not is_between(value, 0, facts[0]):
        raise BadCount(value)


def exact_evidence(question, facts):
    """Return the evidence that has all sums that there are, and no others."""
    return tuple([column_evidence(condition, column_in(facts, condition.column))
                  for condition in conditions_of(question)])


def column_evidence(condition, column):
    """Return the part of the exact evidence that stands for one column."""
    return tuple([(sums_up_to(within_span(condition, bucket), bucket.many),
                   sums_up_to(outside_span(condition, bucket), bucket.many)) for bucket in buckets_of(column)])


def within_span(condition, bucket):
    """Return the part of the span of a bucket that a condition takes."""
    return both(bucket.span, condition.ranges)


def outside_span(condition, bucket):
    """Return the part of the span of a bucket that a condition does not take."""
    return without(bucket.span, condition.ranges)


def live_counts(question, facts, live, evidence):
    """Return the ascending numbers of the first live rows that can meet a question, by evidence."""
    counts = question_counts(question, facts[0], column_counts(question, facts, evidence))
    found = []
    for count in counts:
        low, high = live_span(count, facts[0], live)
        found.extend(list(range(low, high + 1)))
    return sorted(set(found))


def live_span(count, size, live):
    """Return how many of the live rows meet a question, at least and at most, if so many of all rows meet it."""
    dropped = size - live
    return count - min(dropped, count), count - max(0, dropped - (size - count))


def question_counts(question, size, by_column):
    """Return the ascending numbers of all rows that can meet a question, by those of its conditions."""
    if isinstance(question, Condition):
        return by_column[question.column]
    return running_counts(question, size, by_column)[-1]


def running_counts(question, size, by_column):
    """Return the counts of the first part of an and or an or, of its first two parts together, and so on."""
    found = []
    for part in question.parts:
        counts = question_counts(part, size, by_column)
        found.append(joint_counts(question.word, found[-1], counts, size) if found else counts)
    return found


def joint_counts(word, ones, others, size):
    """Return the ascending numbers of rows that can meet two parts together."""
    found = []
    for one in ones:
        for other in others:
            low, high = joint_span(word, one, other, size)
            found.extend(list(range(low, high + 1)))
    return sorted(set(found))


def joint_span(word, one, other, size):
    """Return how many rows meet two parts together, at least and at most, if one and other rows meet each of them."""
    if word == "and":
        return max(0, one + other - size), min(one, other)
    return max(one, other), min(size, one + other)


def column_counts(question, facts, evidence):
    """Return a dict with the counts of the condition on each column of a question."""
    return {part.column: condition_counts(part, column_in(facts, part.column), pairs)
            for part, pairs in zip(conditions_of(question), evidence)}


def condition_counts(condition, column, evidence):
    """Return the ascending numbers of rows that can meet a condition."""
    counts = [column[2] if condition.missing else 0]
    for numbers in counts_by_bucket(condition, column, evidence):
        counts = added_counts(counts, numbers)
    return counts


def added_counts(ones, others):
    """Return the ascending sums of a number of ones and one of others."""
    return sorted({one + other for one in ones for other in others})


def counts_by_bucket(condition, column, evidence):
    """Return for each bucket the ascending numbers of its values that can be in the ranges of a condition."""
    return [bucket_counts(condition, bucket, pair) for bucket, pair in zip(buckets_of(column), evidence)]


def bucket_counts(condition, bucket, pair):
    """Return the ascending numbers of values of a bucket that can be in the ranges of a condition."""
    within, outside = pair
    known = len([value for value in bucket.known if holds(condition.ranges, value)])
    return [known + many for many in range(bucket.many + 1)
            if completed(within[many], outside[bucket.many - many], bucket.rest)]
