"""Two tables: the pairs of their rows that have the same value in two columns."""

from piecefacts.answers import Answer
from piecefacts.asking import Inquiry, known_ids, live_members, pairs_of, take
from piecefacts.checks import check_asked, check_at, check_name
from piecefacts.covers import least_cover, most_pairs
from piecefacts.errors import SameTable
from piecefacts.outlooks import prospects_for
from piecefacts.ranges import both, holds


class Meeting(Answer):
    """An answer about two tables, with the cover that was read at once, and the pairs that show it to be smallest."""

    def __init__(self, told, read, passed, cover, pairs):
        self.told = told
        self.read = read
        self.passed = passed
        self.cover = cover
        self.pairs = pairs


class Side:
    """One of the two tables: the pairs (value, id) of its known rows, and the prospects of its other pieces."""

    def __init__(self, table, column, question, at):
        self.ask = Inquiry(table, at)
        self.column = column
        self.question = question
        prospects = prospects_for(self.ask, column, question)
        self.pairs = pairs_of(self.ask, column, question, known_ids(self.ask))
        for prospect in prospects:
            self.pairs = self.pairs + prospect.pairs
        self.prospects = [prospect for prospect in prospects if not prospect.plain]


def meeting(one, column, question, other, column_there, question_there, *, at=None, at_there=None):
    """Tell the pairs of ids of rows of two tables that meet their questions and have the same value."""
    check_name(one, column)
    check_asked(one, question)
    check_name(other, column_there)
    check_asked(other, question_there)
    check_at(one, at)
    check_at(other, at_there)
    if one.is_same(other):
        raise SameTable()
    sides = [Side(one, column, question, at), Side(other, column_there, question_there, at_there)]
    read = read_by_known(sides)
    edges = edges_between(sides)
    cover = least_cover(edges)
    read_places(sides, cover)
    read = read + list(cover) + read_by_known(sides)
    return Meeting(equal_pairs(sides), tuple(read), passed_places(sides), cover, most_pairs(edges))


def read_by_known(sides):
    """Read, round by round, the pieces that may meet a known row, and return them in their sequence."""
    found = []
    places = places_by_known(sides)
    while places:
        read_places(sides, places)
        found.extend(places)
        places = places_by_known(sides)
    return found


def places_by_known(sides):
    """Return the pieces (side, number), ascending, that may meet a known row of the other table."""
    return [(k, prospect.number) for k in (0, 1) for prospect in sides[k].prospects
            if any([holds(prospect.ranges, value) for value, _ in sides[1 - k].pairs])]


def read_places(sides, places):
    """Read pieces (side, number)."""
    for k, number in places:
        side = sides[k]
        take(side.ask, number)
        side.pairs = side.pairs + pairs_of(side.ask, side.column, side.question, live_members(side.ask, number))
        side.prospects = [prospect for prospect in side.prospects if prospect.number != number]


def edges_between(sides):
    """Return the pairs of the numbers of pieces of both tables that may meet, ascending."""
    here, there = sides
    return [(left.number, right.number) for left in here.prospects for right in there.prospects
            if both(left.ranges, right.ranges)]


def equal_pairs(sides):
    """Return the ascending pairs of ids of known rows of both tables that have the same value."""
    here, there = sides
    return tuple(sorted([(row_id, other_id) for value, row_id in here.pairs for other_value, other_id in there.pairs
                         if value == other_value]))


def passed_places(sides):
    """Return an entry for each piece whose rows are not known, ascending."""
    return tuple([((k, prospect.number), prospect.ranges) for k in (0, 1) for prospect in sides[k].prospects])
