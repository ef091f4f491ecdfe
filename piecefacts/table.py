"""Tables: rows at versions, of which those in pieces are known only by their facts."""

from piecefacts.answers import matching_answer, numbers_between, reaches_answer, shown_answer, tally_answer
from piecefacts.answers import total_answer
from piecefacts.changes import change_row, cut_column, drop_rows, fold_pieces, forget_before, hold_pieces, pack_rows
from piecefacts.changes import put_rows
from piecefacts.checks import check_at, check_piece
from piecefacts.errors import BadColumns
from piecefacts.facts import MOST_COLUMNS
from piecefacts.kinds import is_column
from piecefacts.ordered import leading_answer, pairs_in_order, walk_search
from piecefacts.state import State, is_live_id, live_ids
from piecefacts.trials import Trial
from piecefacts.wording import text_of


class Table:
    """A table with these columns; state is all of it that changes, depth how many trials it is in."""

    def __init__(self, *columns):
        if not are_columns(columns):
            raise BadColumns(columns)
        self.columns = columns
        self.state = State(len(columns))
        self.depth = 0

    @property
    def version(self):
        """The last version."""
        return self.state.last

    @property
    def since(self):
        """The first version that is kept."""
        return self.state.first

    @property
    def pieces(self):
        """The numbers of the pieces, ascending."""
        return tuple(self.state.packed)

    @property
    def held(self):
        """The pieces whose rows are known from readings, the one that was read longest ago first."""
        return self.state.recent

    @property
    def readings(self):
        """How many readings there were so far."""
        return self.state.read_count

    def __eq__(self, other):
        return isinstance(other, Table) and text_of(self.columns, self.state) == text_of(other.columns, other.state)

    def __len__(self):
        return len(live_ids(self.state, self.state.last))

    def __contains__(self, row_id):
        return is_live_id(self.state, row_id, self.state.last)

    def is_same(self, other):
        """Tell whether another table is this very object."""
        return self is other

    def put(self, *rows):
        """Put rows, and return the tuple of their ids."""
        return put_rows(self, rows)

    def drop(self, *ids):
        """Drop the rows with these ids."""
        drop_rows(self, ids)

    def change(self, row_id, row):
        """Drop a row and put another one in one step, and return its id."""
        return change_row(self, row_id, row)

    def ids(self, *, at=None):
        """Return the ids of the live rows, ascending."""
        check_at(self, at)
        return tuple(live_ids(self.state, self.state.last if at is None else at))

    def cut(self, column, *points):
        """Make these the cut points of a column from now on."""
        cut_column(self, column, points)

    def pack(self, many=20):
        """Make a piece of the first so many fresh rows, and return its number."""
        return pack_rows(self, many)

    def forget(self, version):
        """Keep no version before this one."""
        forget_before(self, version)

    def fold(self, *pieces):
        """Read pieces and pack their rows that are there anew; return the numbers of the new pieces."""
        return fold_pieces(self, pieces)

    def ids_in(self, piece):
        """Return the ids of a piece, ascending."""
        check_piece(self, piece)
        return self.state.packed[piece].members

    def facts_at(self, piece):
        """Return the facts of a piece."""
        check_piece(self, piece)
        return self.state.packed[piece].facts

    def tally(self, question, *, at=None):
        """Tell how many rows meet a question."""
        return tally_answer(self, question, at)

    def between(self, question, *, at=None):
        """Return all numbers of rows that may meet a question, without a reading."""
        return numbers_between(self, question, at)

    def reaches(self, question, least, *, at=None):
        """Tell whether at least so many rows meet a question."""
        return reaches_answer(self, question, least, at)

    def matching(self, question, *, at=None):
        """Tell the ids of the rows that meet a question."""
        return matching_answer(self, question, at)

    def shown(self, row_id, *, at=None):
        """Tell the row with this id."""
        return shown_answer(self, row_id, at)

    def leading(self, many, column, question=None, *, down=False, at=None):
        """Tell the first so many pairs (value, id) of the rows that meet a question."""
        return leading_answer(self, many, column, question, down, at)

    def walk(self, column, question=None, *, many=None, down=False, at=None):
        """Yield the first so many pairs (value, id), or all of them, and read pieces on the way."""
        search = walk_search(self, column, question, many, down, at)
        yield from pairs_in_order(search, many)

    def total(self, column, question=None, *, at=None):
        """Tell the sum of the values in a column over the rows that meet a question."""
        return total_answer(self, column, question, at)

    def hold(self, most):
        """Hold at most so many pieces from now on."""
        hold_pieces(self, most)

    def trial(self):
        """Return a trial, for a with block; what is done in it is undone, unless it is kept."""
        return Trial(self)

    def tried(self, deed):
        """Do a deed with a trial in a block of its own, and return what it returns."""
        with Trial(self) as begun:
            return deed(begun)


def are_columns(value):
    """Tell whether the values of a tuple are 1 to 4 different columns."""
    if not 1 <= len(value) <= MOST_COLUMNS or not all([is_column(column) for column in value]):
        return False
    return len(set(value)) == len(value)
