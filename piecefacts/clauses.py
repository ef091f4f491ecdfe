"""Conditions, ands and ors: what a question is made of, and what its signs do."""

from piecefacts.errors import NoColumn, TooMany, Twice
from piecefacts.kinds import HIGHEST, LOWEST
from piecefacts.ranges import both, either, holds, without

MOST_COLUMNS = 8
MOST_PAIRS = 4


class Question:
    """What conditions, ands and ors have in common; each of them has columns, ascending, and a string."""

    def __and__(self, other):
        return joined("and", self, other)

    def __or__(self, other):
        return joined("or", self, other)

    def __neg__(self):
        return opposite(self)

    def __eq__(self, other):
        return isinstance(other, Question) and self.string == other.string

    def __call__(self, row):
        for column in self.columns:
            if column not in row:
                raise NoColumn(column)
        return is_met(self, row)


class Condition(Question):
    """Takes the rows whose value in the column is in ranges, or is missing and missing is True."""

    def __init__(self, column, ranges, missing):
        self.column = column
        self.ranges = ranges
        self.missing = missing
        self.columns = (column,)
        self.string = condition_string(column, ranges, missing)


class Joined(Question):
    """An and or an or, as its word says, of two or more parts in the order of their least columns."""

    def __init__(self, word, parts):
        self.word = word
        self.parts = parts
        self.columns = tuple(sorted(columns_of(parts)))
        self.string = joined_string(word, parts)


def is_met(question, row):
    """Tell whether a row, which has all columns of a question, meets it."""
    return is_met_by(question, {part.column: takes_value(part, row[part.column]) for part in conditions_of(question)})


def is_met_by(question, answers):
    """Tell whether a question is met where a dict tells for each of its columns whether the condition is met."""
    if isinstance(question, Condition):
        return answers[question.column]
    found = [is_met_by(part, answers) for part in question.parts]
    return all(found) if question.word == "and" else any(found)


def takes_value(condition, value):
    """Tell whether a condition takes a value."""
    return condition.missing if value is None else holds(condition.ranges, value)


def conditions_of(question):
    """Return the conditions of a question, ascending by their columns."""
    if isinstance(question, Condition):
        return [question]
    return sorted([part for side in question.parts for part in conditions_of(side)], key=least_column)


def joined(word, one, other):
    """Return the and, or the or, of two questions."""
    parts = merged(word, parts_of(word, one) + parts_of(word, other))
    check_columns(columns_of(parts))
    for part in parts:
        if isinstance(part, Condition):
            check_pairs(part.ranges)
    if len(parts) == 1:
        return parts[0]
    return Joined(word, tuple(sorted(parts, key=least_column)))


def opposite(question):
    """Return the question that is met by exactly the rows that do not meet a question."""
    if isinstance(question, Condition):
        others = without(((LOWEST, HIGHEST),), question.ranges)
        check_pairs(others)
        return Condition(question.column, others, not question.missing)
    word = "or" if question.word == "and" else "and"
    return Joined(word, tuple([opposite(part) for part in question.parts]))


def parts_of(word, question):
    """Return the parts that a question brings into an and, or into an or."""
    if isinstance(question, Joined) and question.word == word:
        return question.parts
    return (question,)


def merged(word, parts):
    """Return the parts, with one condition in the place of those that are on the same column."""
    conditions = [part for part in parts if isinstance(part, Condition)]
    columns = sorted({condition.column for condition in conditions})
    groups = [[condition for condition in conditions if condition.column == column] for column in columns]
    return [one_condition(word, group) for group in groups] + [part for part in parts if isinstance(part, Joined)]


def one_condition(word, group):
    """Return the condition that takes what both (word and) or at least one (word or) of a group of one or two take."""
    one, other = group[0], group[-1]
    if word == "and":
        return Condition(one.column, both(one.ranges, other.ranges), one.missing and other.missing)
    return Condition(one.column, either(one.ranges, other.ranges), one.missing or other.missing)


def columns_of(parts):
    """Return the columns of all parts, those that stand in several parts several times."""
    return [column for part in parts for column in part.columns]


def least_column(part):
    """Return the least column of a part."""
    return part.columns[0]


def check_columns(columns):
    """Refuse columns of which one stands twice, or of which there are too many."""
    columns = sorted(columns)
    for before, after in zip(columns, columns[1:]):
        if before == after:
            raise Twice(after)
    if len(columns) > MOST_COLUMNS:
        raise TooMany(MOST_COLUMNS)


def check_pairs(ranges):
    """Refuse ranges that are too many for a condition."""
    if len(ranges) > MOST_PAIRS:
        raise TooMany(MOST_PAIRS)


def condition_string(column, ranges, missing):
    """Return the string of a condition."""
    words = [f"{low}" if low == high else f"{low}..{high}" for low, high in ranges]
    if missing:
        words.append("?")
    takes = ",".join(words) if words else "-"
    return f"{column}={takes}"


def joined_string(word, parts):
    """Return the string of an and or an or."""
    if word == "or":
        return " or ".join([part.string for part in parts])
    return " and ".join([f"({part.string})" if isinstance(part, Joined) else part.string for part in parts])
