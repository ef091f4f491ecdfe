"""Long histories of all calls, drawn, held against plain rows after each call."""

import random
import unittest

from tests.histories import Drawer, History, meet

DOMAINS = [
    [None, 0, 1, 2],
    [None, None, 1, 2, 3, 4, 5, 6],
    [-3, -1, 0, 2, 5, 9, 14],
    [None, -9999, -9998, -5, 0, 7, 9998, 9999],
    [None, *range(-40, 60, 7), 9999],
    [4, 4, 4, 4, 4, None],
    [None, *range(-9999, 9999, 1111)],
]


class BlockFailed(Exception):
    """The error with which a block of a trial ends."""


def wander(chance, drawer, history, steps):
    """Do so many drawn calls."""
    for _ in range(steps):
        if chance.random() < 0.45:
            name, arguments = drawer.change(history.plain)
            history.call(name, *arguments)
        else:
            name, arguments, named = drawer.ask(history.plain)
            history.call(name, *arguments, **named)


def try_out(chance, drawer, history, depth):
    """Do calls in a trial of both tables, with trials within it, and keep them or not."""
    saved = history.plain.saved()
    keeps, fails = chance.random() < 0.5, chance.random() < 0.3
    try:
        with history.table.trial() as first, history.bare.trial() as second:
            wander(chance, drawer, history, chance.randint(1, 5))
            if keeps:
                first.keep()
                second.keep()
            if depth < 4 and chance.random() < 0.6:
                try_out(chance, drawer, history, depth + 1)
            wander(chance, drawer, history, chance.randint(0, 3))
            if fails:
                raise BlockFailed()
    except BlockFailed:
        assert fails
    if fails or not keeps:
        history.plain.restore(saved)
    history.check()


class HistoriesTest(unittest.TestCase):
    def test_single_tables(self):
        for seed in range(40):
            chance = random.Random(seed)
            columns = tuple(chance.sample(["a", "b", "ba", "k"], chance.choice([1, 2, 2, 3, 4])))
            drawer = Drawer(chance, columns, chance.choice(DOMAINS))
            history = History(self, columns)
            history.call("put", *[drawer.row() for _ in range(chance.randint(5, 40))])
            for _ in range(6):
                wander(chance, drawer, history, 8)
                try_out(chance, drawer, history, 1)
                history.read_back()
            history.check_all()

    def test_two_tables(self):
        for seed in range(60):
            chance = random.Random(1000 + seed)
            domain = chance.choice(DOMAINS)
            sides = []
            for columns in (("a", "b"), ("c", "a")):
                drawer = Drawer(chance, columns, domain)
                history = History(self, columns)
                history.call("put", *[drawer.row() for _ in range(chance.randint(2, 25))])
                for _ in range(chance.randint(1, 6)):
                    history.call("pack", chance.randint(1, 5))
                sides.append((drawer, history))
            for _ in range(8):
                for drawer, history in sides:
                    name, arguments = drawer.change(history.plain)
                    history.call(name, *arguments)
                (one, here), (other, there) = chance.sample(sides, 2)
                meet(self, here, there, one.any(one.column()), one.question(), other.any(other.column()), other.question(),
                     **one.at(here.plain), **{"at_there": at for at in other.at(there.plain).values()})
            for _, history in sides:
                history.check_all()

    def test_tables_of_many_rows(self):
        for seed in range(6):
            chance = random.Random(2000 + seed)
            columns = ("a", "b")
            drawer = Drawer(chance, columns, [None, *range(-9999, 10000, chance.choice([1, 7, 1000]))])
            history = History(self, columns)
            history.call("put", *[drawer.row() for _ in range(150)])
            for _ in range(7):
                history.call("pack")
            history.call("hold", 2)
            wander(chance, drawer, history, 40)


if __name__ == "__main__":
    unittest.main()
