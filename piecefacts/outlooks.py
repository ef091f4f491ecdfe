"""What is possible for the live rows of a piece whose rows are not known."""

from piecefacts.asking import live_members, unsure_pieces
from piecefacts.counting import live_counts
from piecefacts.evidence import settling
from piecefacts.facts import column_in
from piecefacts.possible import possible_counts, possible_values


class Outlook:
    """How many of the live rows of a piece, which has this number, can meet a question; and the evidence for it."""

    def __init__(self, number, facts, members, question):
        self.number = number
        self.members = members
        self.evidence = () if question is None else settling(question, facts, len(members))
        self.counts = asked_counts(question, facts, len(members), self.evidence)


class Prospect:
    """Which values the live rows of a piece that meet a question can have in a column.

    plain tells whether these rows are known, as far as the column goes, without a reading: all live rows, of which
    there are some, meet the question, and the column is constant.
    """

    def __init__(self, number, facts, members, column, question):
        self.number = number
        self.members = members
        self.ranges = possible_values(column, question, facts, len(members))
        self.plain = members != [] and is_constant(column_in(facts, column)) and meets_all(question, facts, members)
        # A range set of one integer, or none if all values are missing.
        self.pairs = [(low, row_id) for low, _ in self.ranges for row_id in members] if self.plain else []


def outlooks_for(ask, question):
    """Return the outlooks of all pieces whose rows are not known, ascending."""
    return [Outlook(number, ask.state.packed[number].facts, live_members(ask, number), question)
            for number in unsure_pieces(ask)]


def prospects_for(ask, column, question):
    """Return the prospects of all pieces whose rows are not known, ascending."""
    return [Prospect(number, ask.state.packed[number].facts, live_members(ask, number), column, question)
            for number in unsure_pieces(ask)]


def asked_counts(question, facts, live, evidence):
    """Return the possible counts, ascending, by the exact evidence for a question that may be None."""
    return [live] if question is None else live_counts(question, facts, live, evidence)


def meets_all(question, facts, members):
    """Tell whether all live rows meet a question in every candidate."""
    return question is None or possible_counts(question, facts, len(members)) == (len(members),)


def is_constant(column):
    """Tell whether all values of a column are missing, or none is and they are equal, by its facts."""
    missing, least, greatest = column[2:5]
    return least is None or missing == 0 and least == greatest
