"""What the document promises over the whole program: its interface, and its conventions."""

import copy
import importlib
import inspect
import random
import unittest

from piecefacts.errors import FactsError
from piecefacts.joining import meeting
from piecefacts.questions import where
from piecefacts.table import Table
from piecefacts.texts import read_table, show_table
from tests.any_values import ANY_VALUES, is_same
from tests.candidate_tables import small_history
from tests.histories import properties
from tests.test_answers import begun
from tests.test_errors import ARGUMENTS

FUNCTIONS = {
    "ranges": {"is_ranges": "(value)", "holds": "(ranges, number)", "both": "(one, other)", "either": "(one, other)",
               "without": "(one, other)", "added": "(one, other)", "sums": "(ranges, many)"},
    "questions": {"where": "(column, ranges, *, missing=False)", "read_question": "(string)"},
    "facts": {"facts_of": "(columns, cuts, rows)", "is_facts": "(value)"},
    "possible": {"possible_counts": "(question, facts, live)", "possible_values": "(column, question, facts, live)",
                 "possible_totals": "(column, question, facts, live)"},
    "evidence": {"shows_candidate": "(facts, value)", "differing": "(question, facts, live)",
                 "settling": "(question, facts, live)", "shows_settled": "(question, facts, live, least, greatest, value)"},
    "joining": {"meeting": "(one, column, question, other, column_there, question_there, *, at=None, at_there=None)"},
    "texts": {"show_table": "(table)", "read_table": "(text)"},
}
METHODS = {
    "__init__": "(self, *columns)", "put": "(self, *rows)", "drop": "(self, *ids)", "change": "(self, row_id, row)",
    "ids": "(self, *, at=None)", "cut": "(self, column, *points)", "pack": "(self, many=20)", "forget": "(self, version)",
    "fold": "(self, *pieces)", "ids_in": "(self, piece)", "facts_at": "(self, piece)", "tally": "(self, question, *, at=None)",
    "between": "(self, question, *, at=None)", "reaches": "(self, question, least, *, at=None)",
    "matching": "(self, question, *, at=None)", "shown": "(self, row_id, *, at=None)",
    "leading": "(self, many, column, question=None, *, down=False, at=None)",
    "walk": "(self, column, question=None, *, many=None, down=False, at=None)",
    "total": "(self, column, question=None, *, at=None)", "hold": "(self, most)", "trial": "(self)", "tried": "(self, deed)",
}
PROPERTIES = ("version", "since", "pieces", "held", "readings")
# Every call of a table that takes a value of any kind, with that value.
CALLS = [
    lambda table, value: table.put(value), lambda table, value: table.put((1, 2), value), lambda table, value: table.drop(value),
    lambda table, value: table.change(value, (1, 2)), lambda table, value: table.change(5, value),
    lambda table, value: table.ids(at=value), lambda table, value: value in table, lambda table, value: table == value,
    lambda table, value: table.cut(value, 1), lambda table, value: table.cut("a", value), lambda table, value: table.pack(value),
    lambda table, value: table.forget(value), lambda table, value: table.fold(value), lambda table, value: table.ids_in(value),
    lambda table, value: table.facts_at(value), lambda table, value: table.tally(None, at=value),
    lambda table, value: table.between(None, at=value), lambda table, value: table.reaches(None, value, at=value),
    lambda table, value: table.matching(None, at=value), lambda table, value: table.shown(value),
    lambda table, value: table.shown(0, at=value), lambda table, value: table.leading(value, "a"),
    lambda table, value: table.leading(2, value), lambda table, value: list(table.walk(value)),
    lambda table, value: list(table.walk("a", many=value, at=value)), lambda table, value: table.total(value, at=value),
    lambda table, value: table.hold(value), lambda table, value: meeting(table, value, None, begun(), "a", None, at=value),
    lambda table, value: meeting(table, "a", None, begun(), value, None, at_there=value), lambda table, value: read_table(value),
    lambda table, value: Table(value, "a"),
]


class InterfaceTest(unittest.TestCase):
    def test_functions(self):
        for name, functions in FUNCTIONS.items():
            module = importlib.import_module("piecefacts." + name)
            for function, arguments in functions.items():
                found = getattr(module, function)
                self.assertTrue(inspect.isfunction(found))
                self.assertEqual((found.__module__, str(inspect.signature(found))), ("piecefacts." + name, arguments), function)

    def test_errors(self):
        module = importlib.import_module("piecefacts.errors")
        for name, arguments in ARGUMENTS.items():
            self.assertEqual(getattr(module, name).__module__, "piecefacts.errors")
            if arguments:
                self.assertEqual(list(inspect.signature(getattr(module, name)).parameters), list(arguments))

    def test_methods_of_a_table_stand_in_its_own_class(self):
        self.assertEqual(Table.__module__, "piecefacts.table")
        for name, arguments in METHODS.items():
            self.assertEqual(str(inspect.signature(vars(Table)[name])), arguments, name)
        for name in ("__contains__", "__len__", "__eq__"):
            self.assertIn(name, vars(Table))
        self.assertTrue(inspect.isgeneratorfunction(vars(Table)["walk"]))

    def test_properties_of_a_new_table(self):
        table = Table("a", "b")
        self.assertTrue(is_same(table.columns, ("a", "b")))
        self.assertTrue(is_same([getattr(table, name) for name in PROPERTIES], [0, 0, (), (), 0]))

    def test_answers_and_trials(self):
        table = begun()
        for answer in (table.tally(None), table.reaches(None, 1), table.matching(None), table.shown(0), table.leading(1, "a"),
                       table.total("a"), meeting(table, "a", None, Table("a"), "a", None)):
            self.assertTrue(all(type(getattr(answer, name)) is tuple for name in ("read", "passed")))
        with table.trial() as trial:
            self.assertEqual(str(inspect.signature(trial.keep)), "()")


class ConventionsTest(unittest.TestCase):
    def test_arguments_are_not_changed(self):
        kept = copy.deepcopy(ANY_VALUES)
        for call in CALLS:
            for value in ANY_VALUES:
                try:
                    call(begun(), value)
                except FactsError:
                    continue
        self.assertTrue(is_same(ANY_VALUES, kept))

    def test_a_call_that_raises_changes_nothing_and_raises_no_other_error(self):
        for call in CALLS:
            table = begun()
            table.drop(1)
            table.hold(1)
            table.shown(3)
            for value in ANY_VALUES:
                before = show_table(table)
                try:
                    with table.trial():
                        call(table, value)
                except FactsError as error:
                    self.assertEqual(type(error).__bases__, (FactsError,))
                self.assertEqual(show_table(table), before)
                try:
                    call(table, value)
                except FactsError:
                    self.assertEqual(show_table(table), before)

    def test_methods_without_a_described_result_return_none(self):
        table = begun()
        with table.trial() as trial:
            for found in (table.drop(0), table.drop(), table.cut("a", 1), table.forget(1), table.hold(1), trial.keep()):
                self.assertIsNone(found)

    def test_returned_sequences_are_tuples(self):
        table = begun()
        table.hold(2)
        found = [table.put((1, 1)), table.put(), table.ids(), table.ids_in(0), table.facts_at(0), table.pieces, table.held,
                 table.between(None), table.matching(None).told, table.leading(2, "a").told, table.shown(0).told, table.columns,
                 meeting(table, "a", None, begun(), "a", None).told, table.fold(0), read_table(show_table(table)).pieces]
        self.assertEqual([type(value) for value in found], [tuple] * len(found))

    def test_equal_calls_return_equal_results(self):
        low = where("a", ((1, 3),))
        for seed in range(30):
            history, drawer = small_history(self, seed)
            table = history.table
            table.hold(0)
            for _ in range(6):
                name, arguments, named = drawer.ask(history.plain)
                found = []
                for again in (table, table, read_table(show_table(table))):
                    try:
                        answer = getattr(again, name)(*arguments, **named)
                        found.append(list(answer) if name == "walk" else properties(answer) or answer)
                    except FactsError as error:
                        found.append([type(error).__name__, vars(error)])
                self.assertTrue(is_same(found[1:], found[:-1]), (name, arguments, named))
            self.assertTrue(is_same(properties(table.tally(low)), properties(table.tally(low))))

    def test_a_column_is_found_among_many_by_its_own_name(self):
        table = Table("b", "ab", "a", "z")
        table.put((1, 2, 3, 4), (5, 6, 7, 8), (1, 2, 3, 4))
        table.cut("ab", 3)
        table.pack(2)
        self.assertEqual([table.total(name).told for name in table.columns], [7, 10, 13, 16])
        self.assertEqual([name for name, points, *_ in table.facts_at(0)[1] if points], ["ab"])
        self.assertEqual([table.leading(1, name, down=True).told for name in table.columns],
                         [((5, 1),), ((6, 1),), ((7, 1),), ((8, 1),)])


if __name__ == "__main__":
    unittest.main()
