"""What the calls of a table refuse before they do anything."""

from piecefacts.errors import BadCount, BadRow, NoColumn, NoPiece, NoRow, NoVersion
from piecefacts.kinds import is_between, is_number, is_row
from piecefacts.state import is_live_id


def check_name(table, value):
    """Refuse any value that is no column of the table."""
    if value not in table.columns:
        raise NoColumn(value)


def check_asked(table, question):
    """Refuse a question that has a column that the table does not have; the question may be None."""
    if question is not None:
        for column in question.columns:
            check_name(table, column)


def check_version(table, value):
    """Refuse any value that is no kept version."""
    if not is_between(value, table.state.first, table.state.last):
        raise NoVersion(value)


def check_at(table, value):
    """Refuse any value that is neither a kept version nor None."""
    if value is not None:
        check_version(table, value)


def check_number(value):
    """Refuse any value that is no integer from 0."""
    if not is_number(value) or value < 0:
        raise BadCount(value)


def check_up_to(value, low, high):
    """Refuse any value that is no integer from low to high."""
    if not is_between(value, low, high):
        raise BadCount(value)


def check_row(table, value):
    """Refuse any value that is no row of the table."""
    if not is_row(value, len(table.columns)):
        raise BadRow(value)


def check_live_row(table, value, version):
    """Refuse any value that is no id of a row that is live at a version."""
    if not is_live_id(table.state, value, version):
        raise NoRow(value)


def check_piece(table, value):
    """Refuse any value that is no piece of the table."""
    if not is_number(value) or value not in table.state.packed:
        raise NoPiece(value)
