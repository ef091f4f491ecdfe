"""What a table has at a time: its rows, its pieces, and its numbers."""

from piecefacts.facts import facts_of
from piecefacts.kinds import is_number


class Row:
    """A row that was put at version begun, and dropped at version ended (None if it was not)."""

    def __init__(self, entries, begun, ended):
        self.entries = entries
        self.begun = begun
        self.ended = ended


class Piece:
    """The rows with the ids in members, which were packed by these cut points for each column."""

    def __init__(self, members, points, facts):
        self.members = members
        self.points = points
        self.facts = facts


class State:
    """All of a table that a trial can undo; rows and pieces themselves are never changed, only exchanged.

    rows has the rows by their ids, ascending: those that are there, and those that stand in a piece. packed has the
    pieces by their numbers, ascending. points are the cut points of now for each column. The kept versions go from
    first to last. recent are the held pieces, of which there may be most.
    """

    def __init__(self, many):
        self.rows = {}
        self.packed = {}
        self.points = ((),) * many
        self.first = 0
        self.last = 0
        self.next_row = 0
        self.next_piece = 0
        self.read_count = 0
        self.most = 0
        self.recent = ()


def copied(state):
    """Return a state that is like this one, and stays so when this one changes."""
    other = State(len(state.points))
    other.rows = dict(state.rows)
    other.packed = dict(state.packed)
    other.points = state.points
    other.first = state.first
    other.last = state.last
    other.next_row = state.next_row
    other.next_piece = state.next_piece
    other.read_count = state.read_count
    other.most = state.most
    other.recent = state.recent
    return other


def is_live(row, version):
    """Tell whether a row is live at a version."""
    return row.begun <= version and (row.ended is None or version < row.ended)


def is_there(row, first):
    """Tell whether a row is live at a kept version, if the first one that is kept is this."""
    return row.ended is None or first < row.ended


def is_live_id(state, value, version):
    """Tell whether any value is the id of a row that is live at a version."""
    return is_number(value) and value in state.rows and is_live(state.rows[value], version)


def live_ids(state, version):
    """Return the ids of the rows that are live at a version, ascending."""
    return [row_id for row_id, row in state.rows.items() if is_live(row, version)]


def fresh_ids(state):
    """Return the ids of the rows that stand in no piece, ascending."""
    packed = {row_id: True for piece in state.packed.values() for row_id in piece.members}
    return [row_id for row_id in state.rows if row_id not in packed]


def made_piece(columns, points, ids, rows):
    """Return the piece of the rows with these ids."""
    entries = tuple([rows[row_id].entries for row_id in ids])
    return Piece(tuple(ids), points, facts_of(columns, points, entries))


def newest(numbers, most):
    """Return the last of these pieces, at most so many."""
    return numbers[max(0, len(numbers) - most):]
