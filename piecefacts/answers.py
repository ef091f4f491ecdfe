"""Answers: how many rows meet a question, which ones, and what their sum is, with as few readings as possible."""

from piecefacts.asking import Inquiry, known_ids, live_members, met_ids, pairs_of, take, unsure_pieces
from piecefacts.checks import check_asked, check_at, check_live_row, check_name, check_number
from piecefacts.counting import added_counts
from piecefacts.errors import Twice
from piecefacts.kinds import is_between
from piecefacts.outlooks import is_constant, outlooks_for
from piecefacts.possible import possible_totals


class Answer:
    """What was asked, the pieces that were read for it, and what shows that the others did not have to be."""

    def __init__(self, told, read, passed):
        self.told = told
        self.read = read
        self.passed = passed


def tally_answer(table, question, at):
    """Tell how many rows meet a question."""
    check_asked(table, question)
    check_at(table, at)
    ask = Inquiry(table, at)
    passed = passed_by(ask, [(outlook, len(outlook.counts) > 1) for outlook in outlooks_for(ask, question)])
    told = known_count(ask, question) + sum([outlook.counts[0] for outlook in passed])
    return Answer(told, tuple(ask.taken), counted(passed))


def matching_answer(table, question, at):
    """Tell the ids of the rows that meet a question."""
    check_asked(table, question)
    check_at(table, at)
    ask = Inquiry(table, at)
    passed = passed_by(ask, [(outlook, not is_all_or_none(outlook)) for outlook in outlooks_for(ask, question)])
    found = met_ids(ask, question, known_ids(ask))
    for outlook in passed:
        if outlook.counts != [0]:
            found = found + outlook.members
    return Answer(tuple(sorted(found)), tuple(ask.taken), counted(passed))


def passed_by(ask, choices):
    """Read the pieces whose outlooks stand beside True, and return the other outlooks."""
    for outlook, needed in choices:
        if needed:
            take(ask, outlook.number)
    return [outlook for outlook, needed in choices if not needed]


def known_count(ask, question):
    """Return how many of the rows that are known meet a question."""
    return len(met_ids(ask, question, known_ids(ask)))


def is_all_or_none(outlook):
    """Tell whether it is known of each row of a piece whether it meets the question."""
    return outlook.counts == [0] or outlook.counts == [len(outlook.members)]


def counted(outlooks):
    """Return the entries in passed of pieces that have one possible count."""
    return tuple([(outlook.number, outlook.counts[0], outlook.evidence) for outlook in outlooks])


def numbers_between(table, question, at):
    """Return all numbers of rows that may meet a question."""
    check_asked(table, question)
    check_at(table, at)
    ask = Inquiry(table, at)
    found = [known_count(ask, question)]
    for outlook in outlooks_for(ask, question):
        found = added_counts(found, outlook.counts)
    return tuple(found)


def reaches_answer(table, question, least, at):
    """Tell whether at least so many rows meet a question."""
    check_asked(table, question)
    check_number(least)
    check_at(table, at)
    ask = Inquiry(table, at)
    outlooks = outlooks_for(ask, question)
    while least_count(ask, question, outlooks) < least <= greatest_count(ask, question, outlooks):
        # The first one of the widest, as outlooks ascend by the numbers of their pieces.
        widest = max(outlooks, key=width)
        take(ask, widest.number)
        outlooks = [outlook for outlook in outlooks if outlook.number != widest.number]
    passed = [(outlook.number, outlook.counts[0], outlook.counts[-1], outlook.evidence) for outlook in outlooks]
    return Answer(least <= least_count(ask, question, outlooks), tuple(ask.taken), tuple(passed))


def width(outlook):
    """Return the difference of the greatest and the least possible count."""
    return outlook.counts[-1] - outlook.counts[0]


def least_count(ask, question, outlooks):
    """Return the least number of rows that may meet a question."""
    return known_count(ask, question) + sum([outlook.counts[0] for outlook in outlooks])


def greatest_count(ask, question, outlooks):
    """Return the greatest number of rows that may meet a question."""
    return known_count(ask, question) + sum([outlook.counts[-1] for outlook in outlooks])


def shown_answer(table, row_id, at):
    """Tell the row with an id."""
    state = table.state
    kept = is_between(at, state.first, state.last)
    check_live_row(table, row_id, at if kept else state.last)
    check_at(table, at)
    ask = Inquiry(table, at)
    for number in unsure_pieces(ask):
        if row_id in state.packed[number].members and not is_plain_piece(state.packed[number]):
            take(ask, number)
    return Answer(state.rows[row_id].entries, tuple(ask.taken), ())


def is_plain_piece(piece):
    """Tell whether all columns of a piece are constant, so that its facts tell its rows."""
    return all([is_constant(column) for column in piece.facts[1]])


def total_answer(table, column, question, at):
    """Tell the sum of the values in a column over the rows that meet a question."""
    check_name(table, column)
    check_asked(table, question)
    check_at(table, at)
    if question is not None and column in question.columns:
        raise Twice(column)
    ask = Inquiry(table, at)
    passed = []
    for number in unsure_pieces(ask):
        totals = possible_totals(column, question, ask.state.packed[number].facts, len(live_members(ask, number)))
        if totals[0][0] == totals[-1][1]:
            passed.append((number, totals[0][0]))
        else:
            take(ask, number)
    known = sum([value for value, _ in pairs_of(ask, column, question, known_ids(ask))])
    return Answer(known + sum([total for _, total in passed]), tuple(ask.taken), tuple(passed))
