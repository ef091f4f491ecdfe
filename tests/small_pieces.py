"""Small pieces and questions about them, of which all candidates can be laid out."""

import itertools
import random

from piecefacts.questions import where
from tests.piece_model import column_by_hand, facts_by_hand
from tests.string_model import runs

CUTS = [(), (0,), (1,), (2,), (3,), (0, 2), (1, 3), (0, 1, 2, 3), (-9998, 0, 9999)]


def columns_of(size, values, cuts, name="a"):
    """Return the facts of all columns of so many rows, each with one of these values."""
    return sorted({column_by_hand(name, cuts, list(chosen)) for chosen in itertools.product(values, repeat=size)},
                  key=repr)


def conditions_on(name, values):
    """Return conditions on all subsets of values, with and without missing values."""
    subsets = [set(chosen) for many in range(len(values) + 1) for chosen in itertools.combinations(values, many)]
    return [where(name, tuple(runs(chosen)), missing=missing) for chosen in subsets for missing in (False, True)]


def random_piece(chance, names, size, values):
    """Return the facts of a random piece; its columns stand in any sequence."""
    names = chance.sample(names, len(names))
    cuts = [chance.choice(CUTS) for _ in names]
    rows = [tuple(chance.choice([None, *values, *values]) for _ in names) for _ in range(size)]
    return facts_by_hand(names, cuts, rows)


def random_condition(chance, name, values):
    """Return a random condition on some of the values."""
    pairs = runs({value for value in values if chance.random() < 0.45})
    while len(pairs) > 4:
        pairs.remove(chance.choice(pairs))
    return where(name, tuple(pairs), missing=chance.random() < 0.3)


def random_question(chance, names, values):
    """Return a random question that has these columns."""
    names = chance.sample(names, len(names))
    question = random_condition(chance, names[0], values)
    for k in range(1, len(names)):
        question = random_joined(chance, question, random_condition(chance, names[k], values))
    return question


def random_joined(chance, one, other):
    """Return the and or the or of two questions."""
    return one & other if chance.random() < 0.5 else one | other


def random_cases(seed, many, most_columns=4, most_rows=4, values=(0, 1, 2)):
    """Return pairs of a random question and the facts of a random small piece that has its columns."""
    chance = random.Random(seed)
    cases = []
    for _ in range(many):
        names = list("abcd")[:chance.randint(1, most_columns)]
        size = chance.randint(1, most_rows if len(names) < 4 else most_rows - 1)
        asked = names if chance.random() < 0.7 else chance.sample(names, chance.randint(1, len(names)))
        if len(asked) == 4 and chance.random() < 0.5:
            first, second = asked[:2], asked[2:]
            question = random_joined(chance, random_question(chance, first, values),
                                     random_question(chance, second, values))
        else:
            question = random_question(chance, asked, values)
        cases.append((question, random_piece(chance, names, size, values)))
    return cases
