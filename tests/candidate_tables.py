"""Small tables of which the candidates of all pieces are laid out, to see which pieces have to be read."""

import itertools
import random

from tests.histories import Drawer, History
from tests.piece_model import sequences


def candidates(facts):
    """Return all tuples of rows that have these facts."""
    size, columns = facts
    return [tuple(zip(*lines)) for lines in itertools.product(*[sequences(column, size) for column in columns])]


def live_rows(plain, number, at, rows):
    """Return the pairs (id, row) of the rows of a piece that are live at a version, if these are the piece's rows."""
    ids = plain.pieces[number][0]
    return [(row_id, row) for row_id, row in zip(ids, rows) if plain.is_live(row_id, at)]


def met_among(plain, question, rows):
    """Return those of the pairs (id, row) that meet a question."""
    return [(row_id, row) for row_id, row in rows if question is None or question(dict(zip(plain.columns, row)))]


def shares(plain, number, at, question):
    """Return the (id, row) pairs that meet a question, for each candidate of a piece."""
    return [met_among(plain, question, live_rows(plain, number, at, rows)) for rows in candidates(plain.facts(number))]


def known_rows(plain, at, besides):
    """Return the (id, row) pairs that are live at a version and stand in none of these pieces."""
    hidden = [row_id for number in besides for row_id in plain.pieces[number][0]]
    return [(row_id, plain.rows[row_id][2]) for row_id in plain.live(at) if row_id not in hidden]


def small_history(case, seed, columns=("a", "b"), domain=(None, 0, 1, 2), rows=10, most=3):
    """Return a random history of a small table in a few pieces, with its drawer; some rows are dropped."""
    chance = random.Random(seed)
    drawer = Drawer(chance, columns, list(domain))
    history = History(case, columns)
    history.call("put", *[drawer.row() for _ in range(chance.randint(3, rows))])
    for name in columns:
        history.call("cut", name, *sorted(chance.sample([0, 1, 2, 3], chance.randint(0, 2))))
    for _ in range(chance.randint(1, 4)):
        if history.plain.fresh():
            history.call("pack", chance.randint(1, most))
    history.call("drop", *[row_id for row_id in history.plain.live(1) if chance.random() < 0.15])
    history.call("hold", chance.choice([0, 0, 1]))
    return history, drawer
