"""A call that asks a table: which rows it knows, and what it reads."""

from piecefacts.clauses import is_met
from piecefacts.state import fresh_ids, is_live, newest


class Inquiry:
    """A call that asks a table about a version.

    sure are the pieces whose rows it knows: those that were held when it began, and those that it has read. taken are
    those that it has read, in their sequence.
    """

    def __init__(self, table, at):
        self.columns = table.columns
        self.state = table.state
        self.version_asked = table.state.last if at is None else at
        self.sure = list(table.state.recent)
        self.taken = []


def take(ask, number):
    """Read a piece, so that its rows are known."""
    ask.sure.append(number)
    ask.taken.append(number)
    state = ask.state
    state.read_count += 1
    state.recent = newest((*state.recent, number), state.most)


def unsure_pieces(ask):
    """Return the pieces whose rows are not known, ascending."""
    return [number for number in ask.state.packed if number not in ask.sure]


def live_among(ask, ids):
    """Return those of the ids whose rows are live at the version."""
    return [row_id for row_id in ids if is_live(ask.state.rows[row_id], ask.version_asked)]


def live_members(ask, number):
    """Return the ids of the rows of a piece that are live at the version, ascending."""
    return live_among(ask, ask.state.packed[number].members)


def known_ids(ask):
    """Return the ids of the live rows that are fresh or stand in a piece whose rows are known."""
    found = live_among(ask, fresh_ids(ask.state))
    for number in ask.sure:
        found.extend(live_members(ask, number))
    return found


def met_ids(ask, question, ids):
    """Return those of the ids whose rows meet a question, or all if it is None."""
    return [row_id for row_id in ids if question is None or is_met(question, row_by_column(ask, row_id))]


def row_by_column(ask, row_id):
    """Return the row with this id as a dict from the columns to its values."""
    return dict(zip(ask.columns, ask.state.rows[row_id].entries))


def pairs_of(ask, column, question, ids):
    """Return the pairs (value, id) of those of the ids whose rows meet a question and have a value in a column."""
    place = ask.columns.index(column)
    pairs = [(ask.state.rows[row_id].entries[place], row_id) for row_id in met_ids(ask, question, ids)]
    return [pair for pair in pairs if pair[0] is not None]
