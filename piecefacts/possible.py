"""What is possible by the facts of a piece: how many rows meet a question, and their values and totals."""

from piecefacts.buckets import buckets_of
from piecefacts.clauses import conditions_of, is_met_by
from piecefacts.counting import check_column, check_live, check_question, exact_evidence, live_counts
from piecefacts.errors import Twice
from piecefacts.facts import column_in
from piecefacts.ranges import added, both, completed, either, sums, sums_up_to


def possible_counts(question, facts, live):
    """Return the ascending tuple of the numbers of the first live rows that can meet a question."""
    check_question(question, facts)
    check_live(live, facts)
    return tuple(live_counts(question, facts, live, exact_evidence(question, facts)))


def possible_values(column, question, facts, live):
    """Return the range set of the values that a live row that meets a question can have in a column."""
    check_all(column, question, facts, live)
    if live == 0:
        return ()
    return values_where(question, column, facts)


def possible_totals(column, question, facts, live):
    """Return the range set of the sums that the live rows that meet a question can have in a column."""
    check_all(column, question, facts, live)
    if question is None:
        counts = (live,)
    elif column in question.columns:
        raise Twice(column)
    else:
        counts = possible_counts(question, facts, live)
    return totals_of(column_in(facts, column), counts)


def check_all(column, question, facts, live):
    """Refuse a column, a question or a number of live rows that facts do not have; the question may be None."""
    check_column(column, facts)
    if question is not None:
        check_question(question, facts)
    check_live(live, facts)


def values_where(question, column, facts):
    """Return the range set of the values that some row that meets a question can have in a column."""
    values = values_of(column_in(facts, column))
    if question is None:
        return values
    answers = {part.column: can_take(part, column_in(facts, part.column)) for part in conditions_of(question)}
    # No condition is denied in a question: if it can be met at all, then where each condition is met that can be.
    if is_met_by(question, {**answers, column: False}):
        return values
    if not is_met_by(question, {**answers, column: True}):
        return ()
    condition = conditions_of(question)[question.columns.index(column)]
    return both(values, condition.ranges)


def can_take(condition, column):
    """Tell whether some row can meet a condition, by the facts of its column."""
    return condition.missing and column[2] > 0 or both(values_of(column), condition.ranges) != ()


def values_of(column):
    """Return the range set of the values that the facts of a column allow."""
    found = ()
    for bucket in buckets_of(column):
        for value in bucket.known:
            found = either(found, ((value, value),))
        if bucket.many:
            found = either(found, completed(bucket.span, sums(bucket.span, bucket.many - 1), bucket.rest))
    return found


def totals_of(column, counts):
    """Return the range set of the sums of a column over any rows, one of counts of them."""
    totals = column_totals(column)
    numbers = sorted({count - missing for count in counts for missing in range(column[2] + 1)})
    found = ()
    for number in numbers:
        if 0 <= number < len(totals):
            found = either(found, totals[number])
    return found


def column_totals(column):
    """Return a list with the range sets of the sums of 0, of 1, and so on to all of the values of a column."""
    totals = [((0, 0),)]
    for bucket in buckets_of(column):
        totals = joined_totals(totals, others_totals(bucket))
        for value in bucket.known:
            totals = joined_totals(totals, [((0, 0),), ((value, value),)])
    return totals


def others_totals(bucket):
    """Return a list with the range sets of the sums of 0, of 1, and so on to all of the values that are not known."""
    parts = sums_up_to(bucket.span, bucket.many)
    return [completed(part, rest, bucket.rest) for part, rest in zip(parts, parts[::-1])]


def joined_totals(ones, others):
    """Return a list of range sets, as ones and others are, of the sums of values of which these and those are."""
    found = [()] * (len(ones) + len(others) - 1)
    for k, one in enumerate(ones):
        for n, other in enumerate(others):
            found[k + n] = either(found[k + n], added(one, other))
    return found
