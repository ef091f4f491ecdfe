import itertools
import random
import unittest

from piecefacts import questions
from piecefacts.errors import BadColumn, BadFlag, BadRanges, NoColumn, TooMany, Twice
from piecefacts.questions import where
from tests import string_model
from tests.any_values import ANY_VALUES
from tests.examples import check_examples

FOUR = ((0, 0), (2, 2), (4, 4), (6, 6))


def ones(letters):
    """Return a condition for each letter."""
    return [where(letter, ((1, 1),)) for letter in letters]


class WhereTest(unittest.TestCase):
    def test_examples_of_section_5(self):
        check_examples(self, """
>>> from piecefacts.questions import where
>>> low, high, size = where('age', ((0, 9),)), where('age', ((5, 20),), missing=True), where('size', ((1, 1),))
>>> [((low & size) & high).string, ((low | high) & size).string, (-(low & size)).string, (low & high & size)({'age': 7, 'size': 1})]
['age=5..9 and size=1', 'age=0..20,? and size=1', 'age=-9999..-1,10..9999,? or size=-9999..0,2..9999,?', True]
>>> (low & size) | high
raises Twice(column='age')
>>> (low & where('size', ()) & where('kind', ((3, 3),), missing=True)).string
'age=0..9 and kind=3,? and size=-'
""")

    def test_functions_are_defined_in_questions(self):
        for name in ("where", "read_question"):
            self.assertEqual(getattr(questions, name).__module__, "piecefacts.questions")

    def test_arguments_by_name(self):
        self.assertEqual(where(missing=True, ranges=((1, 2),), column="a").string, "a=1..2,?")
        with self.assertRaises(TypeError):
            where("a", ((1, 2),), True)

    def test_columns(self):
        for column in ("a", "z", "abcdefgh", "an", "ands", "nor", "orr", "aand", "none", "true"):
            self.assertEqual(where(column, ()).columns, (column,))
        for column in ("", "abcdefghi", "and", "or", "A", "a1", "a b", " a", "a\n", "a_", "\u00e4", "\uff41", "1", "?"):
            with self.assertRaises(BadColumn) as caught:
                where(column, ())
            self.assertEqual(caught.exception.value, column)

    def test_ranges(self):
        for ranges in ((), ((-9999, 9999),), ((-9999, -9999), (9999, 9999)), FOUR, ((5, 5),)):
            self.assertEqual(where("a", ranges).columns, ("a",))
        for ranges in (((-10000, 0),), ((0, 10000),), (*FOUR, (8, 8)), ((-10000, -10000), (0, 0)), ((1, 0),),
                       ((0, 1), (2, 3)), ((True, 2),), [(1, 2)], ([1, 2],), ((10 ** 30, 10 ** 30),), None, "1..2"):
            with self.assertRaises(BadRanges) as caught:
                where("a", ranges)
            self.assertIs(caught.exception.value, ranges)

    def test_any_value_as_column(self):
        good = []
        for value in ANY_VALUES:
            try:
                good.append(where(value, ((1, 2),)).columns[0])
            except BadColumn as error:
                self.assertIs(error.value, value)
        self.assertEqual(good, ["a", "abcdefgh"])

    def test_any_value_as_ranges(self):
        good = []
        for value in ANY_VALUES:
            try:
                good.append(where("a", value).string)
            except BadRanges as error:
                self.assertIs(error.value, value)
        self.assertEqual(good, ["a=-", "a=1..2", "a=1..2,4..5"])

    def test_any_value_as_missing(self):
        for value in ANY_VALUES:
            if value is True or value is False:
                self.assertEqual(where("a", (), missing=value).string, "a=?" if value else "a=-")
                continue
            with self.assertRaises(BadFlag) as caught:
                where("a", (), missing=value)
            self.assertIs(caught.exception.value, value)

    def test_the_first_wrong_argument_counts(self):
        for value in (None, 0, 1, [], {"a": 1}, ((2, 1),)):
            with self.assertRaises(BadColumn):
                where(value, value, missing=value)
            with self.assertRaises(BadColumn):
                where("and", value, missing=True)
            with self.assertRaises(BadColumn):
                where("A", (), missing=value)
            with self.assertRaises(BadRanges):
                where("a", value, missing=value)

    def test_strings(self):
        self.assertEqual(where("a", ((0, 0),)).string, "a=0")
        self.assertEqual(where("a", ((-9999, -1), (3, 3), (5, 6)), missing=True).string, "a=-9999..-1,3,5..6,?")
        self.assertEqual(where("a", ((-3, -3),)).string, "a=-3")


class SignsTest(unittest.TestCase):
    def test_parts_stand_in_the_order_of_their_least_columns(self):
        for a, b, c, d in itertools.permutations(ones("abcd")):
            self.assertEqual((a & b & c & d).string, "a=1 and b=1 and c=1 and d=1")
            self.assertEqual((a | (b | (c | d))).string, "a=1 or b=1 or c=1 or d=1")
        a, b, c, d = ones("abcd")
        self.assertEqual((c & (b | d)).string, "(b=1 or d=1) and c=1")
        self.assertEqual(((b | d) & (a | c)).string, "(a=1 or c=1) and (b=1 or d=1)")
        self.assertEqual((c | d & a).string, "a=1 and d=1 or c=1")
        self.assertEqual((((b & a | c) & d)).string, "(a=1 and b=1 or c=1) and d=1")

    def test_parts_of_both_sides_are_put_together(self):
        a, b, c, d, e = ones("abcde")
        self.assertEqual(((a & c) & (b & (d | e))).string, "a=1 and b=1 and c=1 and (d=1 or e=1)")
        self.assertEqual(((a | c) | (b | d & e)).string, "a=1 or b=1 or c=1 or d=1 and e=1")
        self.assertEqual(((a | b) & c).string, "(a=1 or b=1) and c=1")
        self.assertEqual(((a & b) | c).string, "a=1 and b=1 or c=1")

    def test_conditions_on_one_column_become_one(self):
        one, other = where("a", ((0, 5), (8, 8)), missing=True), where("a", ((5, 8),))
        size = where("b", ((1, 1),))
        self.assertEqual((one & other).string, "a=5,8")
        self.assertEqual((one | other).string, "a=0..8,?")
        self.assertEqual((one & one).string, one.string)
        self.assertEqual((one | where("a", (), missing=True)).string, "a=0..5,8,?")
        self.assertEqual((one & where("a", (), missing=True)).string, "a=?")
        self.assertEqual((other & where("a", ())).string, "a=-")
        self.assertEqual(((one & size) & (other & size)).string, "a=5,8 and b=1")
        self.assertEqual(((size | one) | other).string, "a=0..8,? or b=1")

    def test_nothing_is_simplified_further(self):
        nothing, all_of_it = where("a", ()), where("a", ((-9999, 9999),), missing=True)
        b = where("b", ((1, 1),))
        self.assertEqual((nothing & b).string, "a=- and b=1")
        self.assertEqual((all_of_it | b).string, "a=-9999..9999,? or b=1")
        self.assertEqual((all_of_it & b).string, "a=-9999..9999,? and b=1")
        self.assertEqual((-nothing).string, "a=-9999..9999,?")
        self.assertEqual((-all_of_it).string, "a=-")

    def test_opposites(self):
        a, b, c, d = ones("abcd")
        no = "-9999..0,2..9999,?"
        self.assertEqual((-a).string, f"a={no}")
        self.assertEqual((-(a & (b | c & d))).string, f"a={no} or b={no} and (c={no} or d={no})")
        self.assertEqual((-(a | b & (c | d))).string, f"a={no} and (b={no} or c={no} and d={no})")
        self.assertEqual((-where("a", ((-9999, 0), (9999, 9999)), missing=True)).string, "a=1..9998")
        self.assertEqual(-(-(a & (b | c & d))), a & (b | c & d))

    def test_twice(self):
        a, b, c, d = ones("abcd")
        for make, column in [
                (lambda: (a & b) | a, "a"), (lambda: b | (a & b), "b"), (lambda: (a | b) & (a | b), "a"),
                (lambda: (c | b) & (b | c), "b"), (lambda: (a | b & c) & c, "c"), (lambda: (a | b & (c | d)) & d, "d"),
                (lambda: (d | b) & c & d & b, "d"), (lambda: ((d | b) & c) & (d & b), "b"),
                (lambda: (a & b) | (c & d) | (d & a), "a"), (lambda: (a & (b | c)) | (b & d), "b")]:
            with self.assertRaises(Twice) as caught:
                make()
            self.assertEqual(caught.exception.column, column)

    def test_too_many_columns(self):
        eight = ones("abcdefgh")
        many = eight[0]
        for one in eight[1:]:
            many = many & one
        self.assertEqual(len(many.columns), 8)
        self.assertEqual((many & many).columns, many.columns)
        for make in (lambda: many & where("i", ()), lambda: where("i", ()) | many,
                     lambda: (-many) | where("i", ()), lambda: many & (where("i", ()) | where("j", ()))):
            with self.assertRaises(TooMany) as caught:
                make()
            self.assertEqual(caught.exception.limit, 8)

    def test_too_many_pairs(self):
        four, b = where("a", FOUR), where("b", ())
        edges = where("a", ((-9999, 0), (2, 2), (4, 4), (6, 9999)))
        self.assertEqual((-edges).string, "a=1,3,5,?")
        self.assertEqual((four & where("a", ((0, 2), (4, 6)))).string, "a=0,2,4,6")
        self.assertEqual((four | where("a", ((1, 1),))).string, "a=0..2,4,6")
        one = where("a", ((0, 10), (20, 30), (40, 50), (60, 70)))
        other = where("a", ((5, 25), (28, 45), (48, 65), (68, 80)))
        self.assertEqual((one | other).string, "a=0..80")
        for make in (lambda: four | where("a", ((8, 8),)), lambda: one & other, lambda: -four,
                     lambda: -(four & b), lambda: -(b | four), lambda: -(where("c", ()) & (b | four)),
                     lambda: (b & one) & other, lambda: other & (b & one),
                     lambda: (four | b) | where("a", ((8, 8),)), lambda: (b | four) | (where("a", ((8, 8),)) | b)):
            with self.assertRaises(TooMany) as caught:
                make()
            self.assertEqual(caught.exception.limit, 4)

    def test_errors_in_their_sequence(self):
        four, more = where("a", FOUR), where("a", ((8, 8),))
        b, c, d, e, f, g, h, i = ones("bcdefghi")
        for make, wanted in [
                (lambda: (four | b | c | d | e | f | g | h) | (more | i), 8),
                (lambda: (four | b | c | d | e | f | g) | (more | h), 4)]:
            with self.assertRaises(TooMany) as caught:
                make()
            self.assertEqual(caught.exception.limit, wanted)
        with self.assertRaises(Twice) as caught:
            (four | b | c | d | e | f | g) | (more | h & i & g)
        self.assertEqual(caught.exception.column, "g")
        with self.assertRaises(Twice) as caught:
            (four & b & c & d & e & f & g & h) & (i | h)
        self.assertEqual(caught.exception.column, "h")

    def test_parts_stay_as_they_were(self):
        a, b, c, d = ones("abcd")
        held = [a & c, b | d, a | c & d, where("a", FOUR), c]
        before = [(one.string, one.columns) for one in held]
        for one, other in itertools.product(held, held):
            for make in (lambda: one & other, lambda: one | other, lambda: -one, lambda: one == other):
                try:
                    make()
                except (Twice, TooMany):
                    pass
                self.assertEqual([(one.string, one.columns) for one in held], before)

    def test_columns_ascend(self):
        a, b, c, d = ones("dbca")
        question = a & (b | c & d)
        self.assertEqual(question.columns, ("a", "b", "c", "d"))
        self.assertEqual(where("b", ()).columns, ("b",))
        self.assertEqual((where("b", ()) & where("b", ())).columns, ("b",))

    def test_equality(self):
        a, b = ones("ab")
        self.assertTrue(a & b == b & a)
        self.assertTrue(where("a", ((1, 1),)) == a)
        self.assertFalse(a & b == a | b)
        self.assertTrue(a & b != a | b)
        self.assertFalse(a != where("a", ((1, 1),)))
        self.assertFalse(a == where("a", ((1, 1),), missing=True))
        for value in (*ANY_VALUES, "a=1", ("a",)):
            self.assertIs(a == value, False)
            self.assertIs(value == a, False)
            self.assertIs(a != value, True)

    def test_any_sequence_of_signs(self):
        chance = random.Random(5)
        raised = {}
        for _ in range(400):
            made = [random_condition(chance) for _ in range(12)]
            for _ in range(20):
                one = made[-1] if chance.random() < 0.7 else chance.choice(made)
                apart = [other for other in made if not set(other.columns) & set(one.columns)]
                other = chance.choice(apart if apart and chance.random() < 0.9 else made)
                sign = chance.choice(["and", "or"] * 8 + ["-"])
                before = one.string, other.string
                found = outcome(sign, one, other)
                self.assertEqual((one.string, other.string), before)
                if sign == "-":
                    wanted = string_model.opposite(one.string)
                else:
                    wanted = string_model.joined(one.string, other.string, f" {sign} ")
                if isinstance(wanted, tuple):
                    self.assertEqual(found, wanted, (sign, before))
                    raised[wanted] = raised.get(wanted, 0) + 1
                    made.append(random_condition(chance))
                else:
                    self.assertEqual(found.string, wanted, (sign, before))
                    self.assertTrue(string_model.is_question_string(wanted), wanted)
                    made.append(found)
        for error in (("Twice", "a"), ("Twice", "f"), ("TooMany", 8), ("TooMany", 4)):
            self.assertIn(error, raised)


def outcome(sign, one, other):
    """Return the question, or the error as a pair."""
    try:
        return -one if sign == "-" else one & other if sign == "and" else one | other
    except Twice as error:
        return "Twice", error.column
    except TooMany as error:
        return "TooMany", error.limit


def random_condition(chance):
    """Return a condition on one of twelve columns."""
    numbers = set()
    for _ in range(chance.randint(0, 4)):
        low = chance.choice([-9999, -3, 0, 1, 2, 3, 4, 5, 6, 7, 8, 9995])
        numbers.update(range(low, low + chance.randint(1, 4)))
    return where(chance.choice("abcdefghijkl"), tuple(string_model.runs(numbers)), missing=chance.random() < 0.3)


class RowsTest(unittest.TestCase):
    def test_values_at_the_ends(self):
        one = where("a", ((-9999, -5), (0, 0), (3, 4), (9999, 9999)))
        for value in (-9999, -5, 0, 3, 4, 9999):
            self.assertIs(one({"a": value}), True)
            self.assertIs((-one)({"a": value}), False)
        for value in (-4, -1, 1, 2, 5, 9998):
            self.assertIs(one({"a": value}), False)
            self.assertIs((-one)({"a": value}), True)

    def test_missing_values(self):
        for missing in (True, False):
            for ranges in ((), ((0, 0),), ((-9999, 9999),)):
                self.assertIs(where("a", ranges, missing=missing)({"a": None}), missing)
                self.assertIs((-where("a", ranges, missing=missing))({"a": None}), not missing)

    def test_conditions_that_take_nothing_or_everything(self):
        for value in (-9999, 0, 9999, None):
            self.assertIs(where("a", ())({"a": value}), False)
            self.assertIs(where("a", ((-9999, 9999),), missing=True)({"a": value}), True)

    def test_rows_with_other_keys(self):
        a, b = ones("ab")
        row = {"b": 1, "zz": None, "": 5, "and": 2, "a": 1}
        self.assertIs((a & b)(row), True)
        self.assertIs((a & b)(row=row), True)
        self.assertEqual(row, {"b": 1, "zz": None, "": 5, "and": 2, "a": 1})

    def test_rows_that_lack_columns(self):
        a, b, c, d = ones("abcd")
        for question in (d & (b | a & c), d | b & (a | c), a & b & c & d):
            for row, column in [({}, "a"), ({"a": 1}, "b"), ({"b": 1, "c": 1, "d": 1}, "a"), ({"a": 2, "c": 1}, "b"),
                                ({"a": 1, "b": 1, "c": 0}, "d"), ({"a": 1, "b": 1, "d": 1, "x": 1}, "c")]:
                with self.assertRaises(NoColumn) as caught:
                    question(row)
                self.assertEqual(caught.exception.value, column)

    def test_ands_and_ors(self):
        a, b, c, d = ones("abcd")
        for values in itertools.product((1, 2, None), repeat=4):
            row = dict(zip("abcd", values))
            w, x, y, z = [value == 1 for value in values]
            self.assertIs((a & b & c & d)(row), w and x and y and z)
            self.assertIs((a | b | c | d)(row), w or x or y or z)
            self.assertIs((a & (b | c & d))(row), w and (x or y and z))
            self.assertIs((a | b & (c | d))(row), w or x and (y or z))
            self.assertIs((-(a | b & (c | d)))(row), not (w or x and (y or z)))


if __name__ == "__main__":
    unittest.main()
