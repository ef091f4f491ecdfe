"""Histories: calls of tables, each held against plain rows, and against a table that never holds a piece."""

import copy

from piecefacts.errors import FactsError
from piecefacts.joining import meeting
from piecefacts.questions import where
from piecefacts.table import Table
from piecefacts.texts import read_table, show_table
from tests.any_values import ANY_VALUES, is_same
from tests.plain_table import Plain, Refused, Wanted, meeting_of, shows
from tests.small_pieces import random_joined
from tests.string_model import runs

ANSWERS = ("tally", "reaches", "matching", "shown", "total", "leading")


def outcome(function, *arguments, **named):
    """Return what a call returned, or the name of the error that it raised and what this keeps."""
    try:
        return "returned", function(*arguments, **named)
    except FactsError as error:
        return "raised", type(error).__name__, tuple(vars(error).values())
    except Refused as refused:
        return "raised", refused.name, refused.kept


def told_by(found):
    """Return an outcome with what an answer tells in the place of the answer."""
    return ("returned", found[1].told) if hasattr(found[1], "told") else found


def properties(answer):
    """Return a copy of all that an answer has."""
    return copy.deepcopy({name: getattr(answer, name) for name in ("told", "read", "passed", "cover", "pairs")
                          if hasattr(answer, name)})


def as_list(function):
    """Return a function that walks what a function gives."""
    return lambda *arguments, **named: list(function(*arguments, **named))


class History:
    def __init__(self, case, columns):
        self.case = case
        self.plain = Plain(*columns)
        self.table = Table(*columns)
        self.bare = Table(*columns)
        self.kept_answers = []

    def call(self, name, *arguments, **named):
        """Do a call, compare what comes of it, and return what it returned, None if it raised."""
        at = named.get("at")
        wanted = outcome(getattr(self.plain, name), *arguments, **named)
        made = [getattr(table, name) for table in (self.table, self.bare)]
        if name == "walk":
            made = [as_list(function) for function in made]
        found = outcome(made[0], *arguments, **named)
        self.compare(found, wanted, (name, arguments, named), [self.plain, at])
        if name != "hold":
            self.compare_bare(name, told_by(found), told_by(outcome(made[1], *arguments, **named)))
        self.check()
        return found[1] if found[0] == "returned" else None

    def compare_bare(self, name, found, bare):
        """Compare what is told with and without held pieces; without them there may be more numbers between."""
        if name == "between" and found[0] == bare[0] == "returned":
            self.case.assertLessEqual(set(found[1]), set(bare[1]))
        else:
            self.case.assertTrue(is_same(found, bare), (name, found, bare))

    def compare(self, found, wanted, what, place):
        if not isinstance(wanted[1], Wanted):
            self.case.assertTrue(is_same(found, wanted), (what, found, wanted))
            return
        self.case.assertEqual(found[0], "returned", (what, found))
        answer, wish = found[1], wanted[1]
        self.case.assertTrue(is_same(answer.told, wish.told), (what, answer.told, wish.told))
        self.case.assertTrue(is_same(answer.read, wish.read), (what, answer.read, wish.read))
        if wish.asked is False:
            self.case.assertTrue(is_same(answer.passed, wish.passed), (what, answer.passed, wish.passed))
        else:
            self.check_evidence(answer, wish, what, *place)
        self.case.assertEqual(hasattr(answer, "cover"), "cover" in wish.more)
        if wish.more:
            self.check_cover(answer, wish, what)
        self.kept_answers.append((answer, properties(answer)))

    def check_evidence(self, answer, wish, what, plain, at):
        at = plain.version if at is None else at
        self.case.assertTrue(is_same(tuple(entry[:-1] for entry in answer.passed), wish.passed), (what, answer.passed))
        for number, *counts, evidence in answer.passed:
            live = len(plain.live_in(number, at))
            facts = plain.facts(number)
            self.case.assertTrue(shows(wish.asked, facts, live, counts[0], counts[-1], evidence), (what, number))

    def check_cover(self, answer, wish, what):
        edges = [(left[1], right[1]) for left, right in wish.more["edges"]]
        self.case.assertTrue(is_same(answer.cover, wish.more["cover"]), (what, answer.cover, wish.more))
        self.case.assertEqual(len(answer.pairs), len(answer.cover), what)
        self.case.assertTrue(type(answer.pairs) is tuple and list(answer.pairs) == sorted(answer.pairs), what)
        for pair in answer.pairs:
            self.case.assertIn(pair, edges, what)
        for side in (0, 1):
            self.case.assertEqual(len({pair[side] for pair in answer.pairs}), len(answer.pairs), what)

    def check(self):
        """Compare all that can be seen of the table without asking."""
        plain, table = self.plain, self.table
        self.case.assertEqual(show_table(table), plain.text())
        found = (table.columns, table.version, table.since, table.pieces, table.held, table.readings, len(table), table.ids())
        wanted = (plain.columns, plain.version, plain.since, tuple(sorted(plain.pieces)), tuple(plain.held), plain.readings,
                  len(plain.live(plain.version)), tuple(plain.live(plain.version)))
        self.case.assertTrue(is_same(found, wanted), (found, wanted))
        self.case.assertEqual((self.bare.held, self.bare.ids(), self.bare.pieces), ((), found[-1], found[3]))

    def check_all(self):
        """Compare what is asked about single versions, rows and pieces, and what old answers are."""
        for at in range(self.plain.since, self.plain.version + 1):
            self.call("ids", at=at)
        for row_id in range(self.plain.next_id + 1):
            self.case.assertIs(row_id in self.table, row_id in self.plain.live(self.plain.version))
        for number in range(self.plain.next_piece + 1):
            self.call("ids_in", number)
            self.call("facts_at", number)
        for answer, kept in self.kept_answers:
            self.case.assertTrue(is_same(properties(answer), kept))

    def read_back(self):
        """Go on with the tables that are read from the texts of these."""
        for name in ("table", "bare"):
            again = read_table(show_table(getattr(self, name)))
            self.case.assertTrue(again == getattr(self, name) and not again != getattr(self, name))
            setattr(self, name, again)
        self.check()


def meet(case, here, there, *names, **named):
    """Ask two histories for the meeting of their tables, and compare; names are column, question, column, question."""
    column, question, column_there, question_there = names
    found, wanted = [outcome(function, one, column, question, other, column_there, question_there, **named)
                     for function, one, other in ((meeting, here.table, there.table), (meeting_of, here.plain, there.plain))]
    here.compare(found, wanted, (names, named), [])
    told = outcome(meeting, here.bare, column, question, there.bare, column_there, question_there, **named)
    case.assertTrue(is_same(told_by(found), told_by(told)))
    here.check()
    there.check()
    return found[1]


class Drawer:
    """Draws the arguments of calls, most of them right."""

    def __init__(self, chance, columns, domain):
        self.chance = chance
        self.columns = columns
        self.domain = domain

    def any(self, right, share=0.04):
        return self.chance.choice(ANY_VALUES) if self.chance.random() < share else right

    def row(self):
        return tuple(self.chance.choice(self.domain) for _ in self.columns)

    def column(self):
        return self.chance.choice(self.columns)

    def condition(self, name):
        numbers = sorted({value for value in self.domain if value is not None})
        chosen = {value for value in numbers if self.chance.random() < 0.4}
        pairs = runs(chosen)
        if self.chance.random() < 0.3:
            ends = sorted(self.chance.choices([*numbers, -9999, 9999], k=2))
            pairs = [tuple(ends)]
        while len(pairs) > 4:
            pairs.remove(self.chance.choice(pairs))
        return where(name, tuple(pairs), missing=self.chance.random() < 0.3)

    def question(self, besides=None):
        """Draw a question that does not have a column, or None."""
        if self.chance.random() < 0.12:
            return None
        names = [name for name in self.columns if name != besides]
        if self.chance.random() < 0.04:
            names.append(self.chance.choice(["z", "aa", "zz"]))
        if not names:
            return None
        names = self.chance.sample(names, self.chance.randint(1, len(names)))
        question = self.condition(names[0])
        for name in names[1:]:
            question = random_joined(self.chance, question, self.condition(name))
        try:
            return -question if self.chance.random() < 0.2 else question
        except FactsError:
            return question

    def at(self, plain):
        if self.chance.random() < 0.5:
            return {}
        return {"at": self.any(self.chance.choice([None, *range(plain.since, plain.version + 1)]))}

    def row_id(self, plain):
        return self.any(self.chance.choice([*plain.live(plain.version), plain.next_id, 0]))

    def points(self):
        numbers = sorted({value for value in self.domain if value is not None and value > -9999})
        return [self.any(point, 0.01) for point in sorted(self.chance.sample(numbers, min(len(numbers), self.chance.randint(0, 4))))]

    def pieces(self, plain, most):
        numbers = sorted(plain.pieces)
        chosen = self.chance.sample(numbers, min(len(numbers), self.chance.randint(1, most)))
        return [self.any(number, 0.03) for number in chosen]

    def change(self, plain):
        """Draw a call that changes a table, as long as it does not grow beyond its bounds."""
        live = plain.live(plain.version)
        kinds = ["cut", "hold", "pack", "forget", "fold"]
        if plain.version < 58:
            kinds += ["put"] * 4 + ["drop"] * 3 + ["change"] * 2
        kind = self.chance.choice(kinds)
        if kind == "put" and plain.next_id < 180:
            return kind, [self.any(self.row(), 0.01) for _ in range(self.chance.randint(0, 9))]
        if kind == "drop":
            return kind, [self.any(row_id, 0.02) for row_id in self.chance.sample(live, min(len(live), self.chance.randint(0, 4)))]
        if kind == "change":
            return kind, [self.row_id(plain), self.any(self.row())]
        if kind == "cut":
            return kind, [self.any(self.column()), *self.points()]
        if kind == "hold":
            return kind, [self.any(self.chance.choice([0, 1, 1, 2, 3, 12, 13]))]
        if kind == "pack" and len(plain.pieces) < 12:
            return kind, [self.any(self.chance.choice([1, 2, 3, 4, 5, 7, 20, 21]))] if self.chance.random() < 0.9 else []
        if kind == "forget":
            step = self.chance.choice([0, 1, 1, 2, 3])
            return kind, [self.any(min(plain.version, plain.since + step))]
        return "fold", self.pieces(plain, 3)

    def ask(self, plain):
        """Draw a call that asks a table, with its arguments by position and by name."""
        kind = self.chance.choice(["tally", "between", "reaches", "matching", "shown", "total", "leading", "walk"])
        at = self.at(plain)
        column = self.any(self.column())
        many = self.any(self.chance.choice([0, 1, 2, 3, 5, 8, 13, 200]))
        if kind in ("tally", "between", "matching"):
            return kind, [self.question()], at
        if kind == "reaches":
            return kind, [self.question(), many], at
        if kind == "shown":
            return kind, [self.row_id(plain)], at
        if kind == "total":
            return kind, [column, self.question(column if self.chance.random() < 0.9 else None)], at
        more = {**at, "down": True} if self.chance.random() < 0.5 else at
        if kind == "leading":
            return kind, [many, column, self.question()], more
        return kind, [column, self.question()], {**more, "many": self.any(self.chance.choice([None, many]))}
