"""How a table is written as a text."""


def text_of(columns, state):
    """Return the text of a table with these columns and this state."""
    head = [f"version {state.last}", f"since {state.first}"]
    counters = [f"next {state.next_row} {state.next_piece}", f"readings {state.read_count}"]
    rows = [row_line(row_id, row) for row_id, row in state.rows.items()]
    pieces = [line for number, piece in state.packed.items() for line in piece_lines(columns, number, piece)]
    lines = [line_of("columns", columns), *head, *points_lines("cut", columns, state.points), *counters, *rows, *pieces]
    return "\n".join([*lines, line_of("hold", [state.most, *state.recent])])


def line_of(name, words):
    """Return the line of a name and the words behind it."""
    return " ".join([name, *[f"{word}" for word in words]])


def points_lines(name, columns, points):
    """Return a line for each column that has cut points."""
    return [line_of(name, [column, *cuts]) for column, cuts in zip(columns, points) if cuts]


def row_line(row_id, row):
    """Return the line of a row."""
    ended = "-" if row.ended is None else row.ended
    return line_of("row", [row_id, row.begun, ended, *["?" if entry is None else entry for entry in row.entries]])


def piece_lines(columns, number, piece):
    """Return the line of a piece, and below it those of its cut points."""
    return [line_of("piece", [number, *piece.members]), *points_lines("points", columns, piece.points)]
