"""Candidates and evidence: what shows that an answer differs, and what shows that it cannot."""

from piecefacts.buckets import buckets_of
from piecefacts.clauses import conditions_of
from piecefacts.counting import check_live, check_question, exact_evidence, live_counts, outside_span, within_span
from piecefacts.facts import column_in, facts_of, names_in
from piecefacts.kinds import is_row
from piecefacts.layouts import candidate_with
from piecefacts.ranges import added, is_ranges, without


def shows_candidate(facts, value):
    """Tell whether any value is a candidate of facts."""
    size, columns = facts
    if not isinstance(value, tuple) or len(value) != size:
        return False
    if not all([is_row(row, len(columns)) for row in value]):
        return False
    return facts_of(tuple(names_in(facts)), tuple([column[1] for column in columns]), value) == facts


def differing(question, facts, live):
    """Return a candidate with the least and one with the greatest possible count, or None if there is one count."""
    check_question(question, facts)
    check_live(live, facts)
    evidence = exact_evidence(question, facts)
    counts = live_counts(question, facts, live, evidence)
    if len(counts) == 1:
        return None
    least = candidate_with(question, facts, live, counts[0], evidence)
    return least, candidate_with(question, facts, live, counts[-1], evidence)


def settling(question, facts, live):
    """Return evidence that shows the least and the greatest possible count."""
    check_question(question, facts)
    check_live(live, facts)
    return exact_evidence(question, facts)


def shows_settled(question, facts, live, least, greatest, value):
    """Tell whether any value is evidence that every possible count is from least to greatest."""
    check_question(question, facts)
    check_live(live, facts)
    if not is_evidence(question, facts, value):
        return False
    counts = live_counts(question, facts, live, value)
    return least <= counts[0] and counts[-1] <= greatest


def is_evidence(question, facts, value):
    """Tell whether any value is evidence, whatever it shows."""
    conditions = conditions_of(question)
    if not isinstance(value, tuple) or len(value) != len(conditions):
        return False
    return all([is_column_evidence(condition, column_in(facts, condition.column), part)
                for condition, part in zip(conditions, value)])


def is_column_evidence(condition, column, value):
    """Tell whether any value is the part of evidence that stands for one column."""
    buckets = buckets_of(column)
    if not isinstance(value, tuple) or len(value) != len(buckets):
        return False
    return all([is_bucket_evidence(condition, bucket, pair) for bucket, pair in zip(buckets, value)])


def is_bucket_evidence(condition, bucket, value):
    """Tell whether any value is the part of evidence that stands for one bucket."""
    if not isinstance(value, tuple) or len(value) != 2:
        return False
    within, outside = value
    if not contains_sums(within, within_span(condition, bucket), bucket.many):
        return False
    return contains_sums(outside, outside_span(condition, bucket), bucket.many)


def contains_sums(value, ranges, many):
    """Tell whether any value is a tuple of range sets that contain all sums of 0, of 1, and so on to many integers.

    Each of them has to contain the sums of its forerunner's integers, too, even of those that are no such sums.
    """
    if not isinstance(value, tuple) or len(value) != many + 1 or not all([is_ranges(part) for part in value]):
        return False
    if value[0] != ((0, 0),):
        return False
    return all([without(added(before, ranges), after) == () for before, after in zip(value, value[1:])])
