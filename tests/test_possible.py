import inspect
import itertools
import random
import unittest

from piecefacts import possible
from piecefacts.errors import BadCount, NoColumn, Twice
from piecefacts.evidence import differing, settling, shows_settled
from piecefacts.possible import possible_counts, possible_totals, possible_values
from piecefacts.questions import read_question, where
from tests.any_values import ANY_VALUES
from tests.examples import check_examples
from tests.piece_model import all_tuples, column_by_hand, facts_by_hand, inside_counts, model_column_counts
from tests.piece_model import model_counts, model_totals, model_values, outcomes
from tests.small_pieces import CUTS, columns_of, conditions_on, random_cases, random_condition
from tests.string_model import runs, taken

SMALL = (3, (("b", (5,), 0, 1, 9, ((2, 4), (1, 9))), ("a", (), 1, 5, 8, ((2, 13),))))
FAR = [-9999, -9998, -5000, -17, 0, 3, 4, 5001, 9998, 9999]
WIDE = ((-9998, -7001), (-6999, -17), (-15, 8001), (8003, 9998))
SINGLES = ((-9999, -9999), (-17, -17), (3333, 3333), (9001, 9001))
# The functions, and the arguments that stand before the question.
FUNCTIONS = [(possible_counts, ()), (possible_values, ("b",)), (possible_totals, ("b",))]


def column_facts(missing, least, greatest, *pairs, cuts=()):
    """Return the facts of a piece with one column."""
    return missing + sum(number for number, _ in pairs), (("a", cuts, missing, least, greatest, pairs),)


class InterfaceTest(unittest.TestCase):
    def test_functions_are_defined_in_possible_with_these_arguments(self):
        for name, arguments in [("possible_counts", ["question", "facts", "live"]),
                                ("possible_values", ["column", "question", "facts", "live"]),
                                ("possible_totals", ["column", "question", "facts", "live"])]:
            function = getattr(possible, name)
            self.assertEqual(function.__module__, "piecefacts.possible")
            self.assertEqual(list(inspect.signature(function).parameters), arguments)
        question = where("a", ((5, 5),))
        self.assertEqual(possible_counts(live=2, facts=SMALL, question=question), (0, 1))
        self.assertEqual(possible_values(live=2, facts=SMALL, question=question, column="a"), ((5, 5),))
        self.assertEqual(possible_totals(live=3, facts=SMALL, question=question, column="b"), ((1, 1), (3, 3), (9, 9)))

    def test_examples_of_section_8(self):
        check_examples(self, """
>>> from piecefacts.possible import possible_counts
>>> from piecefacts.questions import where
>>> facts = (4, (('a', (), 0, 0, 10, ((4, 20),)), ('b', (), 1, 7, 7, ((3, 21),))))
>>> five, seven = where('a', ((5, 5),)), where('b', ((7, 7),))
>>> [possible_counts(five, facts, 4), possible_counts(seven, facts, 4), possible_counts(five & seven, facts, 4), possible_counts(five | seven, facts, 4), possible_counts(five, facts, 3)]
[(0, 2), (3,), (0, 1, 2), (3, 4), (0, 1, 2)]
""")

    def test_examples_of_section_10(self):
        check_examples(self, """
>>> from piecefacts.possible import possible_totals, possible_values
>>> from piecefacts.questions import where
>>> facts = (3, (('a', (), 0, 0, 10, ((3, 15),)), ('b', (), 1, 7, 8, ((2, 15),))))
>>> seven = where('b', ((7, 7),))
>>> [possible_values('a', None, facts, 3), possible_values('a', seven, facts, 1), possible_values('b', where('b', (), missing=True), facts, 3), possible_values('a', seven, facts, 0)]
[((0, 0), (5, 5), (10, 10)), ((0, 0), (5, 5), (10, 10)), (), ()]
>>> [possible_totals('a', None, facts, 3), possible_totals('a', seven, facts, 3), possible_totals('a', None, facts, 2)]
[((15, 15),), ((0, 0), (5, 5), (10, 10)), ((5, 5), (10, 10), (15, 15))]
""")


class ErrorsTest(unittest.TestCase):
    def assert_raises(self, error, value, function, *arguments):
        with self.assertRaises(error) as caught:
            function(*arguments)
        self.assertIs(caught.exception.value, value)

    def test_live_of_any_kind(self):
        question = where("a", ((5, 5),))
        for function, before in FUNCTIONS:
            good = []
            for value in [*ANY_VALUES, 2, 3, 4, 21, -3, "3", (3,), [0]]:
                if type(value) is int and 0 <= value <= 3:
                    good.append(function(*before, question, SMALL, value))
                else:
                    self.assert_raises(BadCount, value, function, *before, question, SMALL, value)
            self.assertEqual(len(good), 4)
        for function in (possible_values, possible_totals):
            for value in (True, False, None, -1, 4, "1"):
                self.assert_raises(BadCount, value, function, "a", None, SMALL, value)

    def test_columns_of_the_question(self):
        for function, before in FUNCTIONS:
            for names, least in [("z", "z"), ("cd", "c"), ("dc", "c"), ("az", "z"), ("acz", "c"), ("bacdef", "c")]:
                question = where(names[0], ())
                for name in names[1:]:
                    question = question | where(name, ((1, 1),))
                self.assert_raises(NoColumn, question.columns[question.columns.index(least)], function, *before,
                                   question, SMALL, 1)
            nested = read_question("a=1 and (b=2 or c=3 and (d=1 or e=2))")
            self.assert_raises(NoColumn, nested.columns[2], function, *before, nested, SMALL, 1)

    def test_columns_of_any_kind(self):
        for function in (possible_values, possible_totals):
            for value in [*ANY_VALUES, "c", "A", "ab", " a", ("a",), ["a"], {"a": "a"}]:
                if value == "a":
                    self.assertTrue(function(value, None, SMALL, 1))
                else:
                    self.assert_raises(NoColumn, value, function, value, None, SMALL, 1)

    def test_which_error_comes_first(self):
        strange, wrong = where("x", ()) & where("y", ()), where("b", ())
        for live in (True, None, -1, 4, [1], 10 ** 30):
            self.assert_raises(NoColumn, strange.columns[0], possible_counts, strange, SMALL, live)
            for function in (possible_values, possible_totals):
                for question in (None, strange, wrong):
                    self.assert_raises(NoColumn, live, function, live, question, SMALL, live)
                self.assert_raises(NoColumn, strange.columns[0], function, "b", strange, SMALL, live)
                self.assert_raises(NoColumn, strange.columns[0], function, "b", strange | wrong, SMALL, live)
                self.assert_raises(BadCount, live, function, "b", wrong, SMALL, live)
                self.assert_raises(BadCount, live, function, "b", None, SMALL, live)
                self.assert_raises(NoColumn, "y", function, "y", strange, SMALL, live)

    def test_totals_of_a_column_of_the_question(self):
        for question in (where("b", ()), where("a", ()) & where("b", ((1, 9),)), where("b", ()) | where("a", ()),
                         where("b", ((-9999, 9999),), missing=True)):
            for live in (0, 1, 3):
                with self.assertRaises(Twice) as caught:
                    possible_totals("b", question, SMALL, live)
                self.assertEqual(caught.exception.column, "b")
                self.assertTrue(all_tuples(possible_values("b", question, SMALL, live)))
        self.assertEqual(possible_totals("a", where("b", ()), SMALL, 3), ((0, 0),))


class SmallPiecesTest(unittest.TestCase):
    def compare(self, question, facts, columns):
        """Compare what is possible with what shows if all candidates are laid out, for every number of live rows."""
        before = repr(facts), question and question.string
        pairs = outcomes(question, facts)
        for live in range(facts[0] + 1):
            if question is not None:
                found = possible_counts(question, facts, live)
                self.assertEqual(found, model_counts(pairs, live), (question.string, facts, live))
                self.assertTrue(all_tuples(found))
        for column in columns:
            self.compare_column(column, question, facts)
        self.assertEqual((repr(facts), question and question.string), before)

    def compare_column(self, column, question, facts):
        pairs = outcomes(question, facts, column)
        asked = question and question.string
        for live in range(facts[0] + 1):
            found = possible_values(column, question, facts, live)
            self.assertEqual(found, model_values(pairs, live), (column, asked, facts, live))
            self.assertTrue(all_tuples(found))
            if question is None or column not in question.columns:
                found = possible_totals(column, question, facts, live)
                self.assertEqual(found, model_totals(pairs, live), (column, asked, facts, live))
                self.assertTrue(all_tuples(found))

    def test_all_small_columns_and_conditions(self):
        for size in (1, 2, 3):
            for cuts in CUTS:
                for column in columns_of(size, [None, 0, 1, 2, 3], cuts):
                    for question in conditions_on("a", [0, 1, 2, 3])[::1 if size < 3 else 3]:
                        self.compare(question, (size, (column,)), "a")

    def test_columns_of_four_rows(self):
        for cuts in CUTS[:-1]:
            for column in columns_of(4, [None, 0, 1, 3], cuts):
                self.compare(None, (4, (column,)), "a")
                for question in conditions_on("a", [0, 1, 2, 3])[1::5]:
                    self.compare(question, (4, (column,)), "a")

    def test_negative_values(self):
        for column in columns_of(3, [None, -3, -2, 0, 1], (-1,)) + columns_of(3, [-3, -2, -1], (-2,)):
            for question in [None, *conditions_on("a", [-3, -2, -1, 0])[::7]]:
                self.compare(question, (3, (column,)), "a")

    def test_random_pieces_and_questions(self):
        for question, facts in random_cases(10, 700) + random_cases(11, 300, 2, 4, (-1, 0, 1, 3)):
            names = [column[0] for column in facts[1]]
            self.compare(question, facts, names)
            self.compare(None, facts, names)

    def test_questions_that_all_or_no_rows_meet(self):
        everything = ((-9999, 9999),)
        for _, facts in random_cases(12, 60):
            names = [column[0] for column in facts[1]]
            for ranges, missing in [((), False), (everything, False), ((), True), (everything, True)]:
                for word in (" and ", " or "):
                    parts = [where(name, ranges, missing=missing).string for name in sorted(names)]
                    self.compare(read_question(word.join(parts)), facts, names)

    def test_equal_calls_return_equal_results(self):
        for question, facts in random_cases(13, 20):
            for live in range(facts[0] + 1):
                self.assertEqual(possible_counts(question, facts, live), possible_counts(question, facts, live))
                again = read_question(question.string)
                self.assertEqual(possible_counts(again, facts, live), possible_counts(question, facts, live))

    def test_the_sequence_of_the_columns_is_free(self):
        for question, facts in random_cases(14, 60):
            other = facts[0], facts[1][::-1]
            for live in range(facts[0] + 1):
                self.assertEqual(possible_counts(question, other, live), possible_counts(question, facts, live))


class FarValuesTest(unittest.TestCase):
    def laid_out(self, column):
        """Return all candidates of three or four values, ascending, of a column without missing values."""
        _, _, _, least, greatest, pairs = column
        total = sum(part for _, part in pairs) - least - greatest
        if sum(number for number, _ in pairs) == 3:
            return [[least, total, greatest]]
        lowest, highest = max(least, total - greatest), min(greatest, total - least)
        found = [[least, value, total - value, greatest] for value in range(lowest, highest + 1)]
        return [values for values in found if column_by_hand("a", column[1], values) == column]

    def compare(self, column, question):
        candidates = self.laid_out(column)
        met = taken(question.string)
        size = len(candidates[0])
        wanted, values, totals = set(), set(), set()
        for candidate in candidates:
            answers = [value in met for value in candidate]
            for chosen in itertools.combinations(range(size), size - 1):
                wanted.add(sum(answers[k] for k in chosen))
                totals.add(sum(candidate[k] for k in chosen))
            values.update(candidate)
        facts = size, (column,)
        self.assertEqual(possible_counts(question, facts, size - 1), tuple(sorted(wanted)))
        self.assertEqual(possible_values("a", None, facts, size - 1), tuple(runs(values)))
        self.assertEqual(possible_values("a", question, facts, size - 1), tuple(runs(values & met)))
        self.assertEqual(possible_totals("a", None, facts, size - 1), tuple(runs(totals)))

    def test_far_values(self):
        chance = random.Random(15)
        for k in range(60):
            size = 3 if k < 45 else 4
            cuts = tuple(sorted(chance.sample([-5000, -1, 0, 4, 9999], chance.randint(0, 4))))
            values = [chance.choice([*FAR, chance.randint(-9999, 9999)]) for _ in range(size)]
            if min(values) < max(values):
                column = column_by_hand("a", cuts, values)
                self.compare(column, where("a", WIDE, missing=True))
                self.compare(column, where("a", SINGLES))
                self.compare(column, random_condition(chance, "a", [*range(-3, 5), values[0]]))


class TwentyRowsTest(unittest.TestCase):
    def test_columns_of_twenty_values_that_lie_close_together(self):
        chance = random.Random(16)
        for _ in range(60):
            cuts = tuple(sorted(chance.sample([-9, -4, 0, 3, 10, 15], chance.randint(0, 4))))
            choice = chance.sample([None, *range(-12, 20)], chance.choice([2, 3, 3, 4, 6, 12]))
            values = [chance.choice(choice) for _ in range(20)]
            column = column_by_hand("a", cuts, values)
            question = random_condition(chance, "a", range(-12, 20))
            counts = model_column_counts(column, question.string)
            for live in (20, 19, 12, 1, 0):
                wanted = {met for count in counts for met in range(max(0, count - (20 - live)), min(count, live) + 1)}
                self.assertEqual(possible_counts(question, (20, (column,)), live), tuple(sorted(wanted)))
            domain = [] if column[3] is None else range(column[3], column[4] + 1)
            wanted = {value for value in domain if max(inside_counts(column, {value})) > 0}
            self.assertEqual(possible_values("a", None, (20, (column,)), 3), tuple(runs(wanted)))

    def test_values_at_the_ends(self):
        for least, greatest in [(-9999, 9999), (-9999, -9990), (0, 9999)]:
            for high in range(1, 20):
                total = high * greatest + (20 - high) * least
                at_least, at_greatest = where("a", ((least, least),)), where("a", ((greatest, greatest),))
                facts = column_facts(0, least, greatest, (20, total))
                self.assertIn(20 - high, possible_counts(at_least, facts, 20))
                self.assertIn(high, possible_counts(at_greatest, facts, 20))
                self.assertEqual(possible_counts(at_least & at_greatest, facts, 20), (0,))
                ends = possible_counts(at_least | at_greatest, facts, 20)
                self.assertIn(20, ends)
                self.assertNotIn(19, ends)
        facts = column_facts(0, -9999, 9999, (20, 18 * -9999))
        self.assertEqual(possible_counts(where("a", ((-9999, -9999),)), facts, 20), (19,))
        self.assertEqual(possible_counts(where("a", ((-9999, -9999),)), facts, 10), (9, 10))
        self.assertEqual(possible_values("a", None, facts, 20), ((-9999, -9999), (9999, 9999)))
        self.assertEqual(possible_totals("a", None, facts, 10), ((-99990, -99990), (-79992, -79992)))

    def test_one_step_away_from_the_ends(self):
        facts = column_facts(0, -9999, 9999, (20, 18 * -9999 + 2))
        for live, counts in [(20, (17, 18)), (19, (16, 17, 18)), (2, (0, 1, 2)), (1, (0, 1)), (0, (0,))]:
            self.assertEqual(possible_counts(where("a", ((-9999, -9999),)), facts, live), counts)
        self.assertEqual(possible_counts(where("a", ((-9998, -9998),)), facts, 20), (0, 2))
        self.assertEqual(possible_counts(where("a", ((-9997, -9997),)), facts, 20), (0, 1))
        self.assertEqual(possible_values("a", None, facts, 1), ((-9999, -9997), (9999, 9999)))
        self.assertEqual(possible_totals("a", None, facts, 1), ((-9999, -9997), (9999, 9999)))
        self.assertEqual(possible_totals("a", None, facts, 19), ((-189979, -189979), (-169983, -169981)))

    def test_constant_columns(self):
        for value in (-9999, 0, 7, 9999):
            for missing in (0, 1, 19):
                facts = column_facts(missing, value, value, (20 - missing, (20 - missing) * value))
                there = where("a", ((value, value),))
                self.assertEqual(possible_counts(there, facts, 20), (20 - missing,))
                self.assertEqual(possible_counts(-there, facts, 20), (missing,))
                self.assertEqual(possible_values("a", None, facts, 1), ((value, value),))
                self.assertEqual(possible_values("a", -there, facts, 20), ())
                self.assertEqual(possible_totals("a", None, facts, 20), (((20 - missing) * value,) * 2,))
                low = max(0, 5 - missing)
                found = {count * value for count in range(low, min(5, 20 - missing) + 1)}
                self.assertEqual(possible_totals("a", None, facts, 5), tuple(runs(found)))

    def test_columns_without_values(self):
        facts = column_facts(20, None, None, (0, 0), (0, 0), cuts=(3,))
        self.assertEqual(possible_counts(where("a", ((-9999, 9999),)), facts, 20), (0,))
        self.assertEqual(possible_counts(where("a", (), missing=True), facts, 20), (20,))
        self.assertEqual(possible_counts(where("a", (), missing=True), facts, 3), (3,))
        self.assertEqual(possible_values("a", None, facts, 20), ())
        self.assertEqual(possible_totals("a", None, facts, 20), ((0, 0),))

    def test_four_columns_of_far_values(self):
        chance = random.Random(17)
        for cuts in ((), (0,), (-5000, 0, 3, 5000)):
            rows = [tuple(chance.choice([None, -9999, 9999, chance.randint(-9999, 9999)]) for _ in "abcd")
                    for _ in range(20)]
            facts = facts_by_hand(("c", "a", "d", "b"), (cuts,) * 4, rows)
            a, b, c, d = where("a", WIDE), where("b", SINGLES), where("c", WIDE, missing=True), where("d", SINGLES)
            for question in (a & (b | c & d), a | b & (c | d), a & b & c & d, a | b | c | d, a, b & d):
                row_by_row = [question(dict(zip("cadb", row))) for row in rows]
                for live in (20, 13, 1):
                    counts = possible_counts(question, facts, live)
                    self.assertIn(sum(row_by_row[:live]), counts)
                    self.check_ends(question, facts, live, counts)
                self.check_shown(question, facts, rows, row_by_row)

    def check_ends(self, question, facts, live, counts):
        """Check by candidates and by evidence that counts has the right ends."""
        shown = differing(question, facts, live)
        if len(counts) > 1:
            for candidate, count in zip(shown, (counts[0], counts[-1])):
                rows = [dict(zip("cadb", row)) for row in candidate]
                self.assertEqual(facts_by_hand(("c", "a", "d", "b"), [part[1] for part in facts[1]], candidate), facts)
                self.assertEqual(sum(map(question, rows[:live])), count)
        self.assertTrue(shows_settled(question, facts, live, counts[0], counts[-1], settling(question, facts, live)))

    def check_shown(self, question, facts, rows, row_by_row):
        """Check that the values and the totals of rows are possible."""
        for k, column in enumerate("cadb"):
            values = possible_values(column, question, facts, 20)
            for row, met in zip(rows, row_by_row):
                if met and row[k] is not None:
                    self.assertTrue(any(low <= row[k] <= high for low, high in values))
            if column not in question.columns:
                total = sum(row[k] or 0 for row, met in zip(rows, row_by_row) if met)
                self.assertTrue(any(low <= total <= high for low, high in possible_totals(column, question, facts, 20)))

    def test_totals_of_eight_values(self):
        chance = random.Random(18)
        for _ in range(25):
            cuts = tuple(sorted(chance.sample([1, 2, 4, 5], chance.randint(0, 3))))
            choice = chance.sample([None, *range(7)], chance.choice([2, 3, 5]))
            column = column_by_hand("a", cuts, [chance.choice(choice) for _ in range(8)])
            chosen = totals_by_values(column)
            for live in (8, 7, 4, 1, 0):
                wanted = {total for many, total in chosen if live - column[2] <= many <= live}
                self.assertEqual(possible_totals("a", None, (8, (column,)), live), tuple(runs(wanted)))


def totals_by_values(column):
    """Return all pairs (how many of the values of a column, their sum), value by value and bucket by bucket."""
    _, cuts, _, least, greatest, pairs = column
    ends = [-9999, *cuts, 10000]
    found = {(0, 0)}
    for low, high, (number, total) in zip(ends, ends[1:], pairs):
        span = range(max(low, least), min(high - 1, greatest) + 1) if number else ()
        states = {(0, 0, 0, 0)}
        for value in span:
            first = 1 if value in (least, greatest) else 0
            states = {(many + times, sum_of + times * value, chosen + picked, part + picked * value)
                      for many, sum_of, chosen, part in states for times in range(first, number - many + 1)
                      for picked in range(times + 1)}
        here = {(chosen, part) for many, sum_of, chosen, part in states if (many, sum_of) == (number, total)}
        found = {(one + other, part + rest) for one, part in found for other, rest in here}
    return found


if __name__ == "__main__":
    unittest.main()
