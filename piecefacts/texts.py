"""Texts: a table is written as lines, and read back from them."""

from piecefacts.buckets import is_cuts
from piecefacts.changes import MOST_HELD
from piecefacts.errors import BadText
from piecefacts.facts import MOST_ROWS
from piecefacts.kinds import HIGHEST, LOWEST, is_between, number_of
from piecefacts.state import Row, State, fresh_ids, is_there, made_piece
from piecefacts.table import Table, are_columns
from piecefacts.wording import text_of


class Source:
    """The lines of a text, each as a list of words, and how many of them were read."""

    def __init__(self, lines):
        self.lines = lines
        self.done = 0


def show_table(table):
    """Return the text of a table."""
    return text_of(table.columns, table.state)


def read_table(text):
    """Return the table that has this text, for any value."""
    if not isinstance(text, str):
        raise BadText(0)
    source = Source([line.split(" ") for line in text.split("\n")])
    columns = tuple(next_words(source, "columns"))
    check_line(source, are_columns(columns))
    table = Table(*columns)
    read_state(source, columns, table.state)
    # What follows the last line cannot stand there.
    if source.done < len(source.lines):
        raise BadText(source.done)
    return table


def read_state(source, columns, state):
    """Read all lines below the columns into the state of a new table."""
    state.last = next_numbers(source, "version", 1)[0]
    state.first = next_numbers(source, "since", 1)[0]
    check_line(source, state.first <= state.last)
    state.points = read_points(source, "cut", columns)
    state.next_row, state.next_piece = next_numbers(source, "next", 2)
    state.read_count = next_numbers(source, "readings", 1)[0]
    while is_next(source, "row"):
        read_row(source, len(columns), state)
    while is_next(source, "piece"):
        read_piece(source, columns, state)
    read_held(source, state)
    check_line(source, is_fresh_in_order(state))


def is_fresh_in_order(state):
    """Tell whether all rows that stand in no piece are there, and put behind all rows of pieces."""
    fresh = fresh_ids(state)
    packed = [row_id for piece in state.packed.values() for row_id in piece.members]
    if max(packed, default=-1) >= min(fresh, default=state.next_row):
        return False
    return all([is_there(state.rows[row_id], state.first) for row_id in fresh])


def is_next(source, name):
    """Tell whether there is a next line, and it begins with this name."""
    return source.done < len(source.lines) and source.lines[source.done][0] == name


def next_words(source, name):
    """Read the next line, which has to begin with this name, and return the words behind it."""
    if not is_next(source, name):
        raise BadText(source.done)
    source.done += 1
    return source.lines[source.done - 1][1:]


def check_line(source, fits):
    """Refuse the line that was read last, if it does not fit."""
    if not fits:
        raise BadText(source.done - 1)


def next_numbers(source, name, many):
    """Read the next line, which has to be this name and so many integers from 0, and return these."""
    words = next_words(source, name)
    check_line(source, len(words) == many)
    return numbers_in(source, words)


def numbers_in(source, words):
    """Return the integers from 0 that words of the line read last stand for."""
    numbers = [number_of(word) for word in words]
    check_line(source, all([number is not None and number >= 0 for number in numbers]))
    return numbers


def read_points(source, name, columns):
    """Read the lines of cut points that come next, and return the cut points of all columns."""
    found = [()] * len(columns)
    left = columns
    while is_next(source, name):
        words = next_words(source, name)
        points = tuple([number_of(word) for word in words[1:]])
        check_line(source, points != () and is_cuts(points) and words[0] in left)
        found[columns.index(words[0])] = points
        left = left[left.index(words[0]) + 1:]
    return tuple(found)


def read_row(source, many, state):
    """Read the line of a row with so many values."""
    words = next_words(source, "row")
    check_line(source, len(words) == 3 + many)
    row_id, begun = numbers_in(source, words[:2])
    ended = None if words[2] == "-" else numbers_in(source, words[2:3])[0]
    check_line(source, row_id < state.next_row and 1 <= begun <= state.last)
    check_line(source, ended is None or begun < ended <= state.last)
    check_line(source, is_behind(state.rows, row_id, begun))
    state.rows[row_id] = Row(read_entries(source, words[3:]), begun, ended)


def is_behind(rows, row_id, begun):
    """Tell whether a row with this id, put at this version, can stand behind these rows."""
    if not rows:
        return True
    above = list(rows)[-1]
    return above < row_id and rows[above].begun <= begun


def read_entries(source, words):
    """Return the values that words of the line read last stand for."""
    check_line(source, all([word == "?" or is_between(number_of(word), LOWEST, HIGHEST) for word in words]))
    return tuple([None if word == "?" else number_of(word) for word in words])


def read_piece(source, columns, state):
    """Read the line of a piece, and those of its cut points."""
    number, *ids = numbers_in(source, next_piece_words(source))
    check_line(source, max(list(state.packed), default=-1) < number < state.next_piece)
    check_line(source, len(ids) <= MOST_ROWS and ids == sorted(set(ids)))
    fresh = fresh_ids(state)
    check_line(source, all([row_id in fresh for row_id in ids]))
    check_line(source, any([is_there(state.rows[row_id], state.first) for row_id in ids]))
    state.packed[number] = made_piece(columns, read_points(source, "points", columns), ids, state.rows)


def next_piece_words(source):
    """Read the next line, which has to be that of a piece, and return its number and its ids as words."""
    words = next_words(source, "piece")
    check_line(source, len(words) > 1)
    return words


def read_held(source, state):
    """Read the line of the held pieces."""
    words = next_words(source, "hold")
    check_line(source, words != [])
    most, *numbers = numbers_in(source, words)
    check_line(source, most <= MOST_HELD and len(numbers) <= most)
    check_line(source, len(set(numbers)) == len(numbers) and all([number in state.packed for number in numbers]))
    state.most = most
    state.recent = tuple(numbers)
