"""What changes a table: its rows and versions, its cut points and pieces, and how many pieces it holds."""

from piecefacts.buckets import is_cuts
from piecefacts.checks import check_live_row, check_name, check_piece, check_row, check_up_to, check_version
from piecefacts.errors import BadPoints, NoPiece, NoRow, NothingToDo
from piecefacts.facts import MOST_ROWS
from piecefacts.state import Row, fresh_ids, is_there, made_piece, newest

MOST_HELD = 12


def put_rows(table, rows):
    """Put rows into the table, and return the tuple of their ids."""
    for row in rows:
        check_row(table, row)
    state = table.state
    if rows:
        state.last += 1
    return tuple([add_row(state, row) for row in rows])


def add_row(state, entries):
    """Put a row at the last version, and return its id."""
    row_id = state.next_row
    state.rows[row_id] = Row(entries, state.last, None)
    state.next_row = row_id + 1
    return row_id


def drop_rows(table, ids):
    """Drop the rows with these ids."""
    state = table.state
    for k, row_id in enumerate(ids):
        check_live_row(table, row_id, state.last)
        if row_id in ids[:k]:
            raise NoRow(row_id)
    if ids:
        state.last += 1
    for row_id in ids:
        end_row(state, row_id)


def end_row(state, row_id):
    """Drop a row at the last version."""
    row = state.rows[row_id]
    state.rows[row_id] = Row(row.entries, row.begun, state.last)


def change_row(table, row_id, row):
    """Drop a row and put another one at the same version, and return its id."""
    state = table.state
    check_live_row(table, row_id, state.last)
    check_row(table, row)
    state.last += 1
    end_row(state, row_id)
    return add_row(state, row)


def cut_column(table, column, points):
    """Make these the cut points of a column."""
    check_name(table, column)
    if not is_cuts(points):
        raise BadPoints(points)
    state = table.state
    place = table.columns.index(column)
    state.points = (*state.points[:place], points, *state.points[place + 1:])


def pack_rows(table, many):
    """Make a piece of the first fresh rows, and return its number."""
    check_up_to(many, 1, MOST_ROWS)
    ids = fresh_ids(table.state)[:many]
    if not ids:
        raise NothingToDo()
    return add_piece(table, ids)


def add_piece(table, ids):
    """Make a piece of the rows with these ids, and return its number."""
    state = table.state
    number = state.next_piece
    state.packed[number] = made_piece(table.columns, state.points, ids, state.rows)
    state.next_piece = number + 1
    return number


def forget_before(table, version):
    """Let the kept versions begin with this one."""
    check_version(table, version)
    state = table.state
    state.first = version
    sweep(state)


def fold_pieces(table, numbers):
    """Pack those rows of pieces anew that are there, and return the numbers of the new pieces."""
    for k, number in enumerate(numbers):
        check_piece(table, number)
        if number in numbers[:k]:
            raise NoPiece(number)
    if not numbers:
        raise NothingToDo()
    state = table.state
    state.read_count += len([number for number in numbers if number not in state.recent])
    ids = sorted([row_id for number in numbers for row_id in there_in(state, number)])
    for number in numbers:
        del state.packed[number]
    found = [add_piece(table, ids[k:k + MOST_ROWS]) for k in range(0, len(ids), MOST_ROWS)]
    sweep(state)
    return tuple(found)


def there_in(state, number):
    """Return the ids of those rows of a piece that are there."""
    return [row_id for row_id in state.packed[number].members if is_there(state.rows[row_id], state.first)]


def sweep(state):
    """Take away the pieces of which no row is there, and the rows that are neither there nor in a piece."""
    bare = [number for number in state.packed if not there_in(state, number)]
    for number in bare:
        del state.packed[number]
    gone = [row_id for row_id in fresh_ids(state) if not is_there(state.rows[row_id], state.first)]
    for row_id in gone:
        del state.rows[row_id]
    state.recent = tuple([number for number in state.recent if number in state.packed])


def hold_pieces(table, most):
    """Hold at most so many pieces from now on."""
    check_up_to(most, 0, MOST_HELD)
    state = table.state
    state.most = most
    state.recent = newest(state.recent, most)
