"""Which line of a text of a table is the first wrong one, found by forms and by what each line needs of those above."""

import re

COUNT = r"(?:0|[1-9][0-9]{0,8})"
NUMBER = r"(?:0|-?[1-9][0-9]{0,8})"
NAME = r"(?!(?:and|or)(?: |$))[a-z]{1,8}"
FORMS = {
    "columns": rf"columns(?: {NAME}){{1,4}}",
    "version": rf"version {COUNT}",
    "since": rf"since {COUNT}",
    "cut": rf"cut {NAME}(?: {NUMBER}){{1,4}}",
    "next": rf"next {COUNT} {COUNT}",
    "readings": rf"readings {COUNT}",
    "row": rf"row {COUNT} {COUNT} (?:-|{COUNT})(?: (?:\?|{NUMBER})){{1,4}}",
    "piece": rf"piece {COUNT}(?: {COUNT}){{1,20}}",
    "points": rf"points {NAME}(?: {NUMBER}){{1,4}}",
    "hold": rf"hold {COUNT}(?: {COUNT}){{0,12}}",
}
# Behind each kind of line those that can come next.
BEHIND = {
    None: ["columns"], "columns": ["version"], "version": ["since"], "since": ["cut", "next"], "cut": ["cut", "next"],
    "next": ["readings"], "readings": ["row", "piece", "hold"], "row": ["row", "piece", "hold"],
    "piece": ["points", "piece", "hold"], "points": ["points", "piece", "hold"], "hold": [],
}


def wrong_line(text):
    """Return the number of the first wrong line of a text, None if there is none."""
    lines = text.split("\n")
    for k in range(len(lines)):
        if not can_stand(lines[:k], lines[k]):
            return k
    return None if kind_of(lines[-1]) == "hold" else len(lines)


def kind_of(line):
    return line.split(" ")[0]


def of_kind(lines, kind):
    """Return the words behind the first of all lines of a kind."""
    return [line.split(" ")[1:] for line in lines if kind_of(line) == kind]


def can_stand(above, line):
    """Tell whether a line has a form and can stand behind right lines."""
    kind = kind_of(line)
    if kind not in BEHIND[kind_of(above[-1]) if above else None] or not re.fullmatch(FORMS[kind], line):
        return False
    if "\n" in line:
        return False
    return CHECKS.get(kind, lambda *_: True)(above, line.split(" ")[1:])


def numbers(words):
    return [int(word) for word in words]


def fits_columns(above, words):
    return len(set(words)) == len(words)


def version_in(above):
    return int(of_kind(above, "version")[0][0])


def since_in(above):
    return int(of_kind(above, "since")[0][0])


def fits_since(above, words):
    return int(words[0]) <= version_in(above)


def fits_points(above, words, kind):
    """Tell whether cut points ascend within their bounds, on a column behind those of the lines just above."""
    points = numbers(words[1:])
    columns = of_kind(above, "columns")[0]
    before = []
    for line in above[::-1]:
        if kind_of(line) != kind:
            break
        before.append(line.split(" ")[1])
    if words[0] not in columns or points != sorted(set(points)) or points[0] < -9998 or points[-1] > 9999:
        return False
    return all(columns.index(name) < columns.index(words[0]) for name in before)


def next_in(above, place):
    return int(of_kind(above, "next")[0][place])


def fits_row(above, words):
    if len(words) - 3 != len(of_kind(above, "columns")[0]):
        return False
    if any(abs(int(word)) > 9999 for word in words[3:] if word != "?"):
        return False
    row_id, put = numbers(words[:2])
    last = of_kind(above, "row")[-1:]
    if last and (int(last[0][0]) >= row_id or int(last[0][1]) > put):
        return False
    if row_id >= next_in(above, 0) or not 1 <= put <= version_in(above):
        return False
    return words[2] == "-" or put < int(words[2]) <= version_in(above)


def there(above):
    """Return a dict that tells for each id whether the row is there."""
    return {int(words[0]): words[2] == "-" or int(words[2]) > since_in(above) for words in of_kind(above, "row")}


def packed(above):
    return [row_id for words in of_kind(above, "piece") for row_id in numbers(words[1:])]


def fits_piece(above, words):
    number, *ids = numbers(words)
    rows = there(above)
    if number >= next_in(above, 1) or any(int(piece[0]) >= number for piece in of_kind(above, "piece")):
        return False
    if ids != sorted(set(ids)) or any(row_id not in rows or row_id in packed(above) for row_id in ids):
        return False
    return any(rows[row_id] for row_id in ids)


def fits_hold(above, words):
    most, *held = numbers(words)
    pieces = [int(piece[0]) for piece in of_kind(above, "piece")]
    if most > 12 or len(held) > most or len(set(held)) < len(held) or any(number not in pieces for number in held):
        return False
    rows = there(above)
    fresh = [row_id for row_id in rows if row_id not in packed(above)]
    return all(rows[row_id] and all(row_id > other for other in packed(above)) for row_id in fresh)


CHECKS = {
    "columns": fits_columns, "since": fits_since, "row": fits_row, "piece": fits_piece, "hold": fits_hold,
    "cut": lambda above, words: fits_points(above, words, "cut"),
    "points": lambda above, words: fits_points(above, words, "points"),
}
