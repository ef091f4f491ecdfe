import random
import unittest

from piecefacts.errors import BadQuestion
from piecefacts.questions import read_question, where
from tests import string_model
from tests.any_values import ANY_VALUES
from tests.examples import check_examples

STRINGS = [
    "a=0", "a=-", "a=?", "a=1,?", "a=-3..-1,7,?", "abcdefgh=-9999..9999,?", "a=-9999,-5..5,7,9999",
    "a=1 and b=2", "a=1 or b=2", "a=- and (b=1 or c=2 and d=3)", "a=1 or b=2 and c=3", "a=1 and c=3 or b=2",
    "(a=1 or c=2) and (b=? or d=-)", "(a=1 or c=2) and b=3 and (d=1 or e=1)", "an=1 and nor=2 or ord=3",
    "((a=1 or b=2) and c=3 or d=4) and e=5", "a=1 and (b=1 or c=1 and (d=1 or e=1 and (f=1 or g=1 and h=1)))",
    "a=1 or b=1 or c=1 or d=1 or e=1 or f=1 or g=1 or h=1", "a=9998..9999 or b=-9999..-9998",
]

WRONG = [
    "", " ", "a", "=", "a=", "=1", "a==1", "a=1 ", " a=1", "a=1\n", "\na=1", "a =1", "a= 1", "a=1,", "a=,1", "a=1,,3",
    "and", "or", "a=1 and", "and a=1", "a=1 or", "a=1 b=2", "a=1 and and b=2", "a=1 and or b=2", "a=1  and b=2",
    "a=1 and  b=2", "a=1 AND b=2", "a=1\tand b=2", "a=1 xor b=2", "a=1andb=2", "and=1", "or=1", "A=1", "a1=1", "\u00e4=1",
    "abcdefghi=1", "a=1=2", "a=b", "a=01", "a=-0", "a=00", "a=-01", "a=0..00", "a=+1", "a=--1", "a=1-", "a=1_0", "a=1.0",
    "a=1.5", "a=1...5", "a=1..", "a=..5", "a=..", "a=1..2..3", "a=5..5", "a=5..4", "a=1,2", "a=9,10", "a=1..3,4..5",
    "a=1..3,2..5", "a=5,1", "a=1,1", "a=?,1", "a=?,?", "a=-,?", "a=?,-", "a=-,1", "a=1,-", "a=--", "a=??", "a=1?",
    "a=10000", "a=-10000", "a=9999..10000", "a=-10000..0", "a=100000000", "a=999999999", "a=1000000000", "a=0000000001",
    "a=0,2,4,6,8", "a=0,2,4,6,8,?", "a=\u0663", "a=\uff11", "a=\u00b2", "a=\u22121",
    "b=1 and a=1", "b=1 or a=1", "a=1 and a=1", "a=1 or a=2", "a=1 and a=2", "a=1 and (a=1 or b=1)",
    "a=1 and b=1 or b=2", "a=1 or b=1 and a=2", "(b=1 or c=1) and a=1", "b=1 and c=1 or a=1",
    "(b=1 or d=1) and (a=1 or c=1)", "a=1 and (c=1 or b=1)",
    "(a=1)", "((a=1))", "()", "(a=1 or b=2)", "(a=1 and b=2)", "(a=1 and b=2) or c=3", "a=1 and (b=2)",
    "a=1 and (b=2 and c=3)", "a=1 or (b=2 or c=3)", "a=1 or (b=2 and c=3)", "a=1 and ((b=2 or c=3))",
    "a=1 and (b=2 or c=3", "a=1 and b=2 or c=3)", "a=1 and (b=2 or c=3))", "a=1) and (b=2 or c=3", ")a=1(", "a=1 and ()",
    "a=1 and ( b=2 or c=3)", "a=1 and (b=2 or c=3 )", "a=1 and(b=2 or c=3)", "(a=1 or b=2)and c=3", "a=(1)", "a(=1)",
    "(a=1 or b=2) and", "(a=1 or b=2) or c=3", "a=1 and (or b=2)", "(a=1 and b=2", "a=1 and b=2)", "a=1 (and) b=2",
    "a=1 or b=1 or c=1 or d=1 or e=1 or f=1 or g=1 or h=1 or i=1",
    "a=1 and b=1 and c=1 and d=1 and e=1 and f=1 and g=1 and (h=1 or i=1)",
]


class ReadQuestionTest(unittest.TestCase):
    def assert_bad(self, value):
        with self.assertRaises(BadQuestion) as caught:
            read_question(value)
        self.assertIs(caught.exception.value, value)

    def test_examples_of_section_6(self):
        check_examples(self, """
>>> from piecefacts.questions import read_question, where
>>> [read_question('a=-3..-1,7,?').columns, read_question('a=- and (b=1 or c=2 and d=3)').columns, read_question('a=1 or b=2 and c=3') == where('a', ((1, 1),)) | (where('b', ((2, 2),)) & where('c', ((3, 3),)))]
[('a',), ('a', 'b', 'c', 'd'), True]
>>> read_question('a=9,10')
raises BadQuestion(value='a=9,10')
""")

    def test_strings_of_questions(self):
        for string in STRINGS:
            self.assertTrue(string_model.is_question_string(string), string)
            question = read_question(string)
            self.assertEqual(question.string, string)
            self.assertEqual(question.columns, tuple(sorted(string_model.columns_in(string))))
        self.assertEqual(read_question(string="a=1").string, "a=1")

    def test_what_is_read_is_the_question(self):
        a, b, c = where("a", ((1, 1),)), where("b", ((-2, 3),), missing=True), where("c", ())
        for question in (a, b, c, a & b, a | b, a & (b | c), a & b | c, -(a & (b | c))):
            again = read_question(question.string)
            self.assertTrue(again == question)
            for values in [(1, 3, 0), (1, None, 5), (0, -2, None), (None, 4, 9999), (-9999, -3, 1)]:
                row = dict(zip("abc", values))
                self.assertIs(again(row), question(row))
        self.assertEqual((read_question("a=1 or b=1") & read_question("c=1")).string, "(a=1 or b=1) and c=1")

    def test_strings_that_are_none(self):
        for string in WRONG:
            self.assertFalse(string_model.is_question_string(string), string)
            self.assert_bad(string)

    def test_any_value(self):
        good = []
        for value in ANY_VALUES:
            if value in ("a=1", "a=1..2"):
                good.append(read_question(value).string)
            else:
                self.assert_bad(value)
        self.assertEqual(good, ["a=1", "a=1..2"])
        for value in (["a=1"], ("a=1",), {"a=1": "a=1"}, where("a", ())):
            self.assert_bad(value)

    def test_long_strings(self):
        for string in ("(" * 9000 + "a=1" + ")" * 9000, "(" * 9000, ")" * 9000, "a=1" + ")" * 9000, "(" * 9000 + "a=1",
                       "(a=1 or " * 9000 + "b=1" + ")" * 9000, "(a=1 and (b=1 or " * 9000 + "c=1" + "))" * 9000,
                       "(a=1 or b=1) and " * 5000 + "c=1", "a=1 or " * 9000 + "a=1", "a=" + "1" * 9000,
                       "a=-" + "1" * 9000, "a=0.." + "9" * 9000, "a=" + "0" * 9000 + "1", "a" * 9000 + "=1",
                       "a=" + ",".join(str(k) for k in range(0, 9000, 2)), "a=1," * 9000, " " * 9000, "=" * 9000,
                       "a=" + "-" * 9000 + "1", "a=" + "?," * 9000 + "?"):
            self.assert_bad(string)

    def test_strings_that_are_nearly_right(self):
        chance = random.Random(6)
        signs = ["a", "b", "z", "=", "-", ".", "..", ",", "?", "(", ")", " ", "0", "1", "9", "and", " or ", "\n", ""]
        read = 0
        for string in STRINGS:
            for k in range(len(string) + 1):
                for sign in signs:
                    read += self.compare(string[:k] + sign + string[k:])
                    read += self.compare(string[:k] + sign + string[k + 1:])
            for _ in range(300):
                first, second, third, fourth = sorted(chance.randrange(len(string) + 1) for _ in range(4))
                swapped = string[:first] + string[third:fourth] + string[second:third] + string[first:second]
                read += self.compare(swapped + string[fourth:])
        self.assertGreater(read, 1000)

    def compare(self, string):
        """Compare with the model, and return the number of questions that were read."""
        if string_model.is_question_string(string):
            self.assertEqual(read_question(string).string, string)
            return 1
        self.assert_bad(string)
        return 0


if __name__ == "__main__":
    unittest.main()
