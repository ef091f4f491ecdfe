"""The first of an order: pieces are read by their bests, as long as these are ahead of what is known."""

from piecefacts.answers import Answer
from piecefacts.asking import Inquiry, known_ids, live_members, pairs_of, take
from piecefacts.checks import check_asked, check_at, check_name, check_number
from piecefacts.outlooks import prospects_for


class Search:
    """The pairs of a column that are known by now, and the pieces that have something open.

    A rank is a pair (value, id) with the value turned to its negative if the order goes down, so that the first
    pairs have the least ranks. ranks has those of the known pairs, ascending; ahead has pairs of the rank of a
    piece's best and its number, ascending; prospects are those of all pieces that were not held.
    """

    def __init__(self, ask, column, question, down):
        self.ask = ask
        self.column = column
        self.question = question
        self.down = down
        self.prospects = prospects_for(ask, column, question)
        known = pairs_of(ask, column, question, known_ids(ask))
        for prospect in self.prospects:
            known = known + prospect.pairs
        self.ranks = sorted([ranked(pair, down) for pair in known])
        self.ahead = sorted([(ranked(best_of(prospect, down), down), prospect.number)
                             for prospect in self.prospects if prospect.ranges and not prospect.plain])


def ranked(pair, down):
    """Return the rank of a pair, or the pair of a rank."""
    return (-pair[0], pair[1]) if down else pair


def best_of(prospect, down):
    """Return the pair that is the best of a piece which has a possible value."""
    ranges = prospect.ranges
    return ranges[-1][1] if down else ranges[0][0], prospect.members[0]


def leading_answer(table, many, column, question, down, at):
    """Tell the first pairs, at most so many, of the rows that meet a question and have a value in a column."""
    check_number(many)
    check_name(table, column)
    check_asked(table, question)
    check_at(table, at)
    search = Search(Inquiry(table, at), column, question, down)
    told = tuple(pairs_in_order(search, many))
    taken = search.ask.taken
    passed = [(prospect.number, prospect.ranges) for prospect in search.prospects if prospect.number not in taken]
    return Answer(told, tuple(taken), tuple(passed))


def walk_search(table, column, question, many, down, at):
    """Return the search whose pairs a walk goes along."""
    check_name(table, column)
    check_asked(table, question)
    if many is not None:
        check_number(many)
    check_at(table, at)
    return Search(Inquiry(table, at), column, question, down)


def pairs_in_order(search, many):
    """Yield the first pairs, at most so many, or all if many is None; read a piece when its best is ahead of them."""
    told = 0
    while many is None or told < many:
        if is_piece_ahead(search, told):
            read_first(search)
        elif told < len(search.ranks):
            yield ranked(search.ranks[told], search.down)
            told += 1
        else:
            return


def is_piece_ahead(search, told):
    """Tell whether the best of a piece is ahead of the first known pair that was not told, or there is no such pair."""
    if not search.ahead:
        return False
    return told == len(search.ranks) or search.ahead[0][0] < search.ranks[told]


def read_first(search):
    """Read the piece with the first best; all its pairs come behind those that were told."""
    number = search.ahead[0][1]
    search.ahead = search.ahead[1:]
    take(search.ask, number)
    found = pairs_of(search.ask, search.column, search.question, live_members(search.ask, number))
    search.ranks = sorted(search.ranks + [ranked(pair, search.down) for pair in found])
