"""Questions: how they begin, as conditions, and how they are read from their strings."""

from piecefacts.clauses import MOST_PAIRS, Condition
from piecefacts.errors import BadColumn, BadFlag, BadQuestion, BadRanges, FactsError
from piecefacts.kinds import HIGHEST, LOWEST, is_column, number_of
from piecefacts.ranges import is_ranges


def where(column, ranges, *, missing=False):
    """Return the condition that a row meets if its value in the column is in ranges, or is missing as allowed."""
    if not is_column(column):
        raise BadColumn(column)
    if not fits_condition(ranges):
        raise BadRanges(ranges)
    if not isinstance(missing, bool):
        raise BadFlag(missing)
    return Condition(column, ranges, missing)


def read_question(string):
    """Return the question that has this string, for any value."""
    if not isinstance(string, str):
        raise BadQuestion(string)
    try:
        question = read_words(string.split(" "))
    except FactsError:
        raise BadQuestion(string) from None
    # What was read leniently (in another order, with needless parentheses) has another string.
    if question.string != string:
        raise BadQuestion(string)
    return question


def fits_condition(ranges):
    """Tell whether any value is a range set for a condition."""
    if not is_ranges(ranges) or len(ranges) > MOST_PAIRS:
        return False
    return ranges == () or LOWEST <= ranges[0][0] and ranges[-1][1] <= HIGHEST


def read_words(words):
    """Return the question of words, which are conditions with parentheses, and between them the words and, or.

    There is a level for what stands outside of all parentheses, and one for each open parenthesis:
    a list with a group for each side of its ors, which is a list with a part for each side of its ands.
    They are kept in a list, not by recursion, as there may be thousands.
    """
    levels = [[[]]]
    for k, word in enumerate(words):
        if k % 2 == 0:
            read_operand(word, levels)
        elif word == "or":
            levels[-1].append([])
        elif word != "and":
            raise BadQuestion(word)
    if len(words) % 2 == 0 or len(levels) > 1:
        raise BadQuestion(words)
    return closed(levels[0])


def read_operand(word, levels):
    """Read a condition, with the parentheses that open before it and those that close behind it."""
    opened = word.lstrip("(")
    condition = opened.rstrip(")")
    for _ in range(len(word) - len(opened)):
        levels.append([[]])
    levels[-1][-1].append(read_condition(condition))
    for _ in range(len(opened) - len(condition)):
        part = closed(levels.pop())
        if not levels:
            raise BadQuestion(word)
        levels[-1][-1].append(part)


def closed(level):
    """Return the question of a level, of which each group has at least one part."""
    question = None
    for group in level:
        joint = group[0]
        for part in group[1:]:
            joint = joint & part
        question = joint if question is None else question | joint
    return question


def read_condition(word):
    """Return the condition that a word stands for."""
    column, _, takes = word.partition("=")
    items = [] if takes == "-" else takes.split(",")
    missing = items[-1:] == ["?"]
    pairs = items[:-1] if missing else items
    # Whatever the word says, where refuses what is no column and what are no ranges.
    return where(column, tuple([read_pair(item) for item in pairs]), missing=missing)


def read_pair(word):
    """Return the pair (low, high) that a word stands for, with None in it where there is no number."""
    first, dots, second = word.partition("..")
    if dots:
        return number_of(first), number_of(second)
    return number_of(word), number_of(word)
