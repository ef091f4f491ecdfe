import itertools
import random
import unittest

from piecefacts.errors import BadCount, NoColumn, NoRow, NoVersion, Twice
from piecefacts.questions import read_question, where
from piecefacts.table import Table
from piecefacts.texts import show_table
from tests.any_values import ANY_VALUES, is_same
from tests.begun import assert_refused, check_table_examples
from tests.candidate_tables import candidates, known_rows, live_rows, met_among, shares, small_history
from tests.histories import History, properties
from tests.piece_model import is_integer

ROWS = [(1, 5), (3, 5), (9, None), (4, 0), (4, 2), (7, 2)]
STRANGE = [where("z", ()), where("z", ()) & where("c", ((1, 1),)), where("a", ((1, 1),)) | where("zz", ()) & where("c", ()),
           read_question("a=1 and (b=2 or c=3 and (d=1 or e=2))")]
WITH_QUESTION = [("tally", [None]), ("between", [None]), ("matching", [None]), ("reaches", [None, 1])]


def begun():
    """Return the table of the document's examples."""
    table = Table("a", "b")
    table.put(*ROWS)
    table.cut("a", 5)
    table.pack(3)
    table.pack(3)
    return table


class ExamplesTest(unittest.TestCase):
    def test_examples_of_section_14(self):
        check_table_examples(self, """
>>> both = low & five
>>> [table.tally(low).told, table.tally(low).read, [entry[:2] for entry in table.tally(low).passed]]
[2, (), [(0, 2), (1, 0)]]
>>> [table.tally(both).told, table.tally(both).read, table.between(both), table.reaches(both, 1).read, table.reaches(both, 2).read]
[2, (0,), (1, 2), (), (0,)]
>>> [table.drop(0), table.tally(low).told, table.tally(low).read, table.tally(low, at=1).read]
[None, 1, (0,), ()]
""")

    def test_examples_of_section_15(self):
        check_table_examples(self, """
>>> [table.matching(where('a', ((1, 9),))).told, table.matching(where('a', ((1, 9),))).read, table.matching(low).told, table.matching(low).read]
[(0, 1, 2, 3, 4, 5), (), (0, 1), (0,)]
>>> [table.shown(2).told, table.shown(2).read]
[(9, None), (0,)]
""")

    def test_examples_of_section_17(self):
        check_table_examples(self, """
>>> [table.total('a').told, table.total('a').read, table.total('a').passed, table.total('a', five).told, table.total('a', five).read]
[28, (), ((0, 13), (1, 15)), 4, (0,)]
>>> [table.drop(0), table.total('a').told, table.total('a').read, table.total('a', at=1).read]
[None, 27, (0,), ()]
""")


class ErrorsTest(unittest.TestCase):
    def test_columns_that_the_table_does_not_have(self):
        table = begun()
        for question, least in zip(STRANGE, ("z", "c", "c", "c")):
            for name, (_, *more) in WITH_QUESTION:
                assert_refused(self, [table], NoColumn, {"value": least}, getattr(table, name), question, *more, at=[1])
            for value in ANY_VALUES:
                assert_refused(self, [table], NoColumn, {"value": least}, table.reaches, question, value)
            assert_refused(self, [table], NoColumn, {"value": least}, table.total, "a", question, at=-1)

    def test_least_of_any_kind(self):
        table = begun()
        for value in [*ANY_VALUES, -1, True, "1", (1,)]:
            if type(value) is int and value >= 0:
                self.assertIs(table.reaches(None, value).told, value <= 6)
            else:
                for at in (None, 1, 7, "x"):
                    assert_refused(self, [table], BadCount, {"value": value}, table.reaches, None, value, at=at)
        assert_refused(self, [table], NoVersion, {"value": 2}, table.reaches, None, 1, at=2)

    def test_ids_of_any_kind(self):
        table = begun()
        table.drop(5)
        for value in [*ANY_VALUES, 6, 5, -1, True, (1,), "1"]:
            if not is_integer(value, 0, 4):
                for at in (None, 2, 3, "x", True):
                    if at in (None, 2) and value == 5:
                        continue
                    assert_refused(self, [table], NoRow, {"value": value}, table.shown, value, at=at)
        assert_refused(self, [table], NoRow, {"value": 5}, table.shown, 5)
        assert_refused(self, [table], NoRow, {"value": 0}, table.shown, 0, at=0)
        for at in (3, -1, True, "1", [1], 10 ** 30):
            assert_refused(self, [table], NoVersion, {"value": at}, table.shown, 0, at=at)
            assert_refused(self, [table], NoRow, {"value": 5}, table.shown, 5, at=at)
        self.assertEqual(table.shown(5, at=1).told, (7, 2))

    def test_columns_of_any_kind(self):
        table = begun()
        for value in [*ANY_VALUES, "c", "B", ("a",)]:
            if value != "a":
                for question in (None, STRANGE[0], where("a", ())):
                    assert_refused(self, [table], NoColumn, {"value": value}, table.total, value, question, at=9)

    def test_totals_of_a_column_of_the_question(self):
        table = begun()
        for question in (where("a", ()), where("a", ((1, 9),)) & where("b", ()), where("b", ()) | where("a", ())):
            assert_refused(self, [table], Twice, {"column": "a"}, table.total, "a", question)
            assert_refused(self, [table], NoVersion, {"value": 2}, table.total, "a", question, at=2)
        assert_refused(self, [table], NoColumn, {"value": "c"}, table.total, "a", where("a", ()) & where("c", ()))


class AnswersTest(unittest.TestCase):
    def test_arguments_by_name(self):
        table = begun()
        low = where("a", ((1, 3),))
        self.assertEqual(table.tally(question=low, at=1).told, 2)
        self.assertEqual(table.between(question=low, at=1), (2,))
        self.assertIs(table.reaches(at=1, least=2, question=low).told, True)
        self.assertEqual(table.matching(question=low, at=None).told, (0, 1))
        self.assertEqual(table.shown(row_id=1, at=1).told, (3, 5))
        self.assertEqual(table.total(column="b", question=low, at=1).told, 10)
        for name, arguments in [*WITH_QUESTION, ("shown", [0]), ("total", ["a", None])]:
            with self.assertRaises(TypeError):
                getattr(table, name)(*arguments, 1)

    def test_questions_that_are_none(self):
        table = begun()
        table.drop(1)
        answer = table.tally(None)
        self.assertEqual((answer.told, answer.read, answer.passed), (5, (), ((0, 2, ()), (1, 3, ()))))
        answer = table.reaches(None, 9)
        self.assertEqual((answer.told, answer.read, answer.passed), (False, (), ((0, 2, 2, ()), (1, 3, 3, ()))))
        answer = table.matching(None, at=1)
        self.assertEqual((answer.told, answer.read, answer.passed), ((0, 1, 2, 3, 4, 5), (), ((0, 3, ()), (1, 3, ()))))
        self.assertEqual((table.between(None), table.between(None, at=0)), ((5,), (0,)))

    def test_pieces_without_live_rows_are_passed(self):
        table = begun()
        table.drop(0, 1, 2)
        low = where("a", ((1, 3),))
        for at, live in ((0, 0), (2, 0)):
            answer = table.tally(low, at=at)
            self.assertEqual([entry[:2] for entry in answer.passed], [(0, live), (1, 0)])
            self.assertEqual((answer.told, answer.read), (0, ()))
        self.assertEqual(table.total("a", where("b", ((5, 5),)), at=0).passed, ((0, 0), (1, 0)))
        self.assertEqual([entry[:3] for entry in table.reaches(low, 0).passed], [(0, 0, 0), (1, 0, 0)])

    def test_answers_stay_what_they_are(self):
        table = begun()
        answers = [table.tally(where("b", ((2, 2),))), table.matching(where("a", ((1, 3),))), table.shown(2), table.total("a"),
                   table.reaches(where("a", ((1, 3),)), 1)]
        before = [properties(answer) for answer in answers]
        table.drop(0, 1)
        table.fold(0, 1)
        table.forget(2)
        table.put((1, 1))
        self.assertTrue(is_same([properties(answer) for answer in answers], before))
        self.assertTrue(all(set(properties(answer)) == {"told", "read", "passed"} for answer in answers))

    def test_fresh_rows_are_known(self):
        table = Table("a")
        table.put((1,), (2,), (3,))
        low = where("a", ((1, 2),))
        for answer, told in [(table.tally(low), 2), (table.matching(low), (0, 1)), (table.total("a"), 6),
                             (table.shown(1), (2,)), (table.reaches(low, 3), False)]:
            self.assertTrue(is_same((answer.told, answer.read, answer.passed), (told, (), ())))
        self.assertEqual(table.readings, 0)

    def test_nothing_is_remembered(self):
        table = begun()
        question = where("b", ((2, 2),)) & where("a", ((4, 4),))
        for k in range(1, 4):
            self.assertEqual((table.tally(question).read, table.readings), ((1,), k))
            self.assertEqual(table.between(question), (1, 2))
            self.assertEqual(table.readings, k)

    def test_constant_pieces_show_their_rows(self):
        table = Table("a", "b")
        table.put((4, None), (4, None), (4, None), (4, 1), (4, None), (4, 1))
        table.pack(3)
        table.pack(2)
        table.pack(1)
        table.drop(0)
        self.assertEqual([table.shown(1).told, table.shown(1).read, table.shown(0, at=1).read], [(4, None), (), ()])
        self.assertEqual([table.shown(4).told, table.shown(4).read, table.shown(5).read], [(4, None), (1,), ()])
        for answer in (table.shown(1), table.shown(4)):
            self.assertEqual(answer.passed, ())

    def test_reaches_reads_the_widest_first(self):
        table = Table("a", "b")
        table.put(*[(1, 1), (2, 2)] * 1, *[(1, 1), (2, 2)] * 3, *[(1, 1), (2, 2)] * 3, *[(1, 1), (2, 2)] * 2)
        for many in (2, 6, 6, 4):
            table.pack(many)
        question = where("a", ((1, 1),)) & where("b", ((1, 1),))
        self.assertEqual(table.between(question), tuple(range(10)))
        for least, told, read in [(0, True, ()), (1, True, (1,)), (3, True, (1,)), (4, True, (1, 2)), (6, True, (1, 2)),
                                  (7, True, (1, 2, 3)), (9, True, (1, 2, 3, 0)), (10, False, ()), (10 ** 40, False, ())]:
            answer = table.reaches(question, least)
            self.assertEqual((answer.told, answer.read), (told, read), least)
            self.assertEqual([entry[:3] for entry in answer.passed],
                             [(number, 0, many) for number, many in enumerate((1, 3, 3, 2)) if number not in read])


class CandidatesTest(unittest.TestCase):
    """What is read is what has to be read, by all candidates of small pieces."""

    def each_case(self, seeds, besides=None):
        for seed in seeds:
            history, drawer = small_history(self, seed)
            for _ in range(4):
                question = drawer.question(besides)
                if question is None or set(question.columns) <= set(history.plain.columns):
                    at = drawer.chance.choice([None, *range(history.plain.since, history.plain.version + 1)])
                    held = list(history.table.held)
                    yield history, question, at, history.plain.version if at is None else at, held

    def pieces_besides(self, history, held):
        return [number for number in sorted(history.plain.pieces) if number not in held]

    def test_tally_and_between(self):
        for history, question, at, version, held in self.each_case(range(100)):
            plain, sums = history.plain, None
            numbers = self.pieces_besides(history, held)
            choices = [{len(share) for share in shares(plain, number, version, question)} for number in numbers]
            known = len(met_among(plain, question, known_rows(plain, version, numbers)))
            sums = {known + sum(chosen) for chosen in itertools.product(*choices)}
            self.assertEqual(history.call("between", question, at=at), tuple(sorted(sums)))
            answer = history.call("tally", question, at=at)
            self.assertEqual(answer.read, tuple(number for number, found in zip(numbers, choices) if len(found) > 1))

    def test_matching(self):
        for history, question, at, version, held in self.each_case(range(100, 200)):
            numbers = self.pieces_besides(history, held)
            read = [number for number in numbers
                    if len({tuple(row_id for row_id, _ in share) for share in shares(history.plain, number, version, question)}) > 1]
            self.assertEqual(history.call("matching", question, at=at).read, tuple(read))

    def test_total(self):
        for history, question, at, version, held in self.each_case(range(200, 300), "a"):
            if question is not None and "a" in question.columns:
                continue
            numbers = self.pieces_besides(history, held)
            read = [number for number in numbers
                    if len({sum(row[0] or 0 for _, row in share) for share in shares(history.plain, number, version, question)}) > 1]
            self.assertEqual(history.call("total", "a", question, at=at).read, tuple(read))

    def test_shown(self):
        for history, _, at, version, _ in self.each_case(range(300, 360)):
            for number in sorted(history.plain.pieces):
                for row_id, _ in live_rows(history.plain, number, version, candidates(history.plain.facts(number))[0]):
                    held = history.table.held
                    rows = {dict(live_rows(history.plain, number, version, found))[row_id]
                            for found in candidates(history.plain.facts(number))}
                    wanted = (number,) if len(rows) > 1 and number not in held else ()
                    self.assertEqual(history.call("shown", row_id, at=at).read, wanted)


class LargePiecesTest(unittest.TestCase):
    def test_wide_values(self):
        chance = random.Random(7)
        for _ in range(6):
            history = History(self, ("a", "b"))
            history.call("put", *[(chance.randint(-9999, 9999), chance.choice([None, -9999, 0, 9999])) for _ in range(60)])
            history.call("cut", "a", -5000, 0, 5000)
            for _ in range(3):
                history.call("pack", 20)
            history.call("drop", *chance.sample(range(60), chance.choice([0, 3])))
            for string in ("a=-9999..0", "a=-9999..-1,5000..9999", "b=-9999,9999", "a=0..9999 and b=?", "a=7 or b=0,?",
                           "a=-9999..9999", "a=-", "b=-9999..9999,?"):
                question = read_question(string)
                for name in ("tally", "matching", "between"):
                    history.call(name, question)
                history.call("reaches", question, 20)
                history.call("total", "a", None if "a" in question.columns else question)
            self.assertGreaterEqual(history.table.readings, 1)
            self.assertEqual(show_table(history.table), history.plain.text())


if __name__ == "__main__":
    unittest.main()
