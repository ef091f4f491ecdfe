import random
import unittest

from piecefacts.errors import BadCount, NoColumn, NoVersion
from piecefacts.questions import where
from piecefacts.table import Table
from tests.any_values import ANY_VALUES, is_same
from tests.begun import assert_refused, check_table_examples
from tests.candidate_tables import known_rows, shares, small_history
from tests.histories import Drawer, History, properties
from tests.test_answers import begun


def order(plain, rows, column, many, down):
    """Return the first pairs (value, id) of (id, row) pairs."""
    place = plain.columns.index(column)
    pairs = sorted((-row[place] if down else row[place], row_id) for row_id, row in rows if row[place] is not None)
    return tuple((-value if down else value, row_id) for value, row_id in pairs[:many])


class ExamplesTest(unittest.TestCase):
    def test_examples_of_section_16(self):
        check_table_examples(self, """
>>> answer = table.leading(1, 'a')
>>> [answer.told, answer.read, answer.passed]
[((1, 0),), (0,), ((1, ((4, 4), (7, 7))),)]
>>> [table.leading(3, 'a').told, table.leading(3, 'a').read, table.leading(1, 'a', down=True).told, list(table.walk('b', low))]
[((1, 0), (3, 1), (4, 3)), (0, 1), ((9, 2),), [(5, 0), (5, 1)]]
""")


class ErrorsTest(unittest.TestCase):
    def test_many_of_any_kind(self):
        table = begun()
        for value in [*ANY_VALUES, -1, "1"]:
            if type(value) is int and value >= 0:
                self.assertEqual(len(table.leading(value, "a").told), min(value, 6))
                self.assertEqual(len(list(table.walk("a", many=value))), min(value, 6))
                continue
            assert_refused(self, [table], BadCount, {"value": value}, table.leading, value, value, where("z", ()), at=value)
            if value is not None:
                assert_refused(self, [table], BadCount, {"value": value}, lambda: list(table.walk("a", None, many=value, at=9)))
        self.assertEqual(len(list(table.walk("a", many=None))), 6)

    def test_columns_of_any_kind(self):
        table = begun()
        for value in [*ANY_VALUES, "c", "ab", ("a",)]:
            if value != "a":
                for question in (None, where("z", ())):
                    assert_refused(self, [table], NoColumn, {"value": value}, table.leading, 1, value, question, at=9)
                    assert_refused(self, [table], NoColumn, {"value": value},
                                   lambda: list(table.walk(value, question, many=-1, at=9)))

    def test_questions_and_versions(self):
        table = begun()
        strange = where("y", ()) & where("c", ()) & where("a", ())
        assert_refused(self, [table], NoColumn, {"value": "c"}, table.leading, 0, "a", strange, at=9)
        assert_refused(self, [table], NoColumn, {"value": "c"}, lambda: list(table.walk("a", strange, many=-1, at=9)))
        assert_refused(self, [table], NoVersion, {"value": 9}, table.leading, 0, "a", at=9)
        assert_refused(self, [table], NoVersion, {"value": 9}, lambda: list(table.walk("a", many=0, at=9)))

    def test_arguments_by_name(self):
        table = begun()
        self.assertEqual(table.leading(at=1, down=False, question=where("b", ((2, 2),)), column="a", many=1).told, ((4, 4),))
        self.assertEqual(list(table.walk(question=where("b", ((2, 2),)), column="a", many=1, down=True, at=1)), [(7, 5)])
        with self.assertRaises(TypeError):
            table.leading(1, "a", None, True)
        with self.assertRaises(TypeError):
            table.walk("a", None, 1)


class LeadingTest(unittest.TestCase):
    def check(self, answer, told, read, passed):
        self.assertTrue(is_same(properties(answer), {"told": told, "read": read, "passed": passed}), properties(answer))

    def test_none_are_asked_for(self):
        self.check(begun().leading(0, "a"), (), (), ((0, ((1, 1), (3, 3), (9, 9))), (1, ((4, 4), (7, 7)))))
        self.check(begun().leading(0, "b", down=True), (), (), ((0, ((5, 5),)), (1, ((0, 0), (2, 2)))))

    def test_more_are_asked_for_than_there_are(self):
        for many in (6, 7, 10 ** 30):
            table = begun()
            answer = table.leading(many, "a")
            self.assertEqual(answer.told, ((1, 0), (3, 1), (4, 3), (4, 4), (7, 5), (9, 2)))
            self.assertEqual((answer.read, answer.passed), ((0, 1), ()))

    def test_constant_pieces_have_nothing_open(self):
        table = Table("a", "b")
        table.put((5, 1), (5, 2), (2, 3), (8, 3), (None, 1), (None, 2), (5, None), (5, None))
        for _ in range(4):
            table.pack(2)
        self.check(table.leading(9, "a"), ((2, 2), (5, 0), (5, 1), (5, 6), (5, 7), (8, 3)), (1,),
                   ((0, ((5, 5),)), (2, ()), (3, ((5, 5),))))
        self.check(table.leading(2, "a", down=True), ((8, 3), (5, 0)), (1,), ((0, ((5, 5),)), (2, ()), (3, ((5, 5),))))
        one = where("b", ((1, 1),))
        self.check(table.leading(1, "a", one), ((5, 0),), (0,), ((1, ()), (2, ()), (3, ())))
        table.drop(0)
        self.check(table.leading(1, "a"), ((2, 2),), (1,), ((0, ((5, 5),)), (2, ()), (3, ((5, 5),))))
        self.check(table.leading(1, "a", where("b", ((2, 2),))), ((5, 1),), (0,), ((1, ()), (2, ()), (3, ())))

    def test_a_piece_whose_best_is_the_last_pair_is_read(self):
        table = Table("a")
        table.put((5,), (7,), (5,), (6,), (1,))
        table.pack(2)
        table.pack(2)
        self.check(table.leading(2, "a"), ((1, 4), (5, 0)), (0,), ((1, ((5, 6),)),))
        self.check(table.leading(3, "a"), ((1, 4), (5, 0), (5, 2)), (0, 1), ())
        self.check(table.leading(1, "a"), ((1, 4),), (), ((0, ((5, 5), (7, 7))), (1, ((5, 6),))))

    def test_pieces_are_read_in_the_sequence_of_their_bests(self):
        table = Table("a")
        table.put((3,), (9,), (1,), (8,), (2,), (7,), (2,), (10,))
        for _ in range(4):
            table.pack(2)
        self.assertEqual([table.leading(many, "a").read for many in range(9)],
                         [(), (1,), (1, 2), (1, 2, 3), (1, 2, 3, 0)] + [(1, 2, 3, 0)] * 4)
        self.assertEqual([table.leading(many, "a", down=True).read for many in range(5)],
                         [(), (3,), (3, 0), (3, 0, 1), (3, 0, 1, 2)])

    def test_the_question_may_have_the_column(self):
        table = begun()
        self.check(table.leading(2, "a", where("a", ((2, 6),))), ((3, 1), (4, 3)), (0, 1), ())
        self.check(table.leading(5, "a", where("a", ((10, 99),))), (), (), ((0, ()), (1, ())))

    def test_earlier_versions(self):
        table = begun()
        table.drop(0, 1)
        table.change(3, (0, 0))
        self.assertEqual(table.leading(2, "a").told, ((0, 6), (4, 4)))
        self.assertEqual(table.leading(2, "a", at=1).told, ((1, 0), (3, 1)))
        self.assertEqual(table.leading(2, "a", at=0).told, ())
        self.check(table.leading(2, "a", at=0), (), (), ((0, ()), (1, ())))


class WalkTest(unittest.TestCase):
    def test_a_walk_is_a_generator(self):
        table = begun()
        walk = table.walk("a")
        self.assertIs(iter(walk), walk)
        self.assertEqual(next(walk), (1, 0))
        self.assertEqual(list(walk), [(3, 1), (4, 3), (4, 4), (7, 5), (9, 2)])
        self.assertEqual(table.readings, 2)

    def test_a_walk_reads_what_leading_reads(self):
        for seed in range(60):
            walker, drawer = small_history(self, seed, rows=14, most=4)
            leader, _ = small_history(self, seed, rows=14, most=4)
            for _ in range(4):
                column, question = drawer.column(), drawer.question()
                if question is not None and not set(question.columns) <= {"a", "b"}:
                    continue
                named = {"down": drawer.chance.random() < 0.5, "at": drawer.chance.choice([None, 1])}
                many = drawer.chance.choice([None, 0, 1, 2, 3, 20])
                for history in (walker, leader):
                    history.call("hold", 0)
                    history.call("hold", 12)
                walker.call("walk", column, question, many=many, **named)
                answer = leader.call("leading", 99 if many is None else many, column, question, **named)
                self.assertEqual(walker.table.held, answer.read)


class CandidatesTest(unittest.TestCase):
    def test_what_is_read_has_to_be_read(self):
        for seed in range(120):
            history, drawer = small_history(self, seed)
            plain = history.plain
            for _ in range(4):
                question, column, down = drawer.question(), drawer.column(), drawer.chance.random() < 0.5
                if question is not None and not set(question.columns) <= {"a", "b"}:
                    continue
                many, at = drawer.chance.randint(0, 6), drawer.chance.choice([plain.version, 1])
                numbers = [number for number in sorted(plain.pieces) if number not in history.table.held]
                needed = []
                for number in numbers:
                    known = [pair for pair in known_rows(plain, at, [number])
                             if question is None or question(dict(zip(plain.columns, pair[1])))]
                    told = {order(plain, known + share, column, many, down) for share in shares(plain, number, at, question)}
                    needed += [number] if len(told) > 1 else []
                answer = history.call("leading", many, column, question, down=down, at=at)
                self.assertEqual(sorted(answer.read), needed, (seed, plain.text(), many, column, question and question.string))


class LargeTest(unittest.TestCase):
    def test_many_equal_and_many_different_values(self):
        chance = random.Random(5)
        for domain in ([None, 1, 2], [*range(-9999, 10000)], [None, *range(-9999, 10000, 2500)]):
            history = History(self, ("a", "b"))
            drawer = Drawer(chance, ("a", "b"), domain)
            history.call("put", *[drawer.row() for _ in range(90)])
            for many in (20, 20, 20, 7, 8):
                history.call("pack", many)
            for many in (0, 1, 2, 10, 40, 90, 91, None):
                for down in (False, True):
                    question = None if many == 2 else drawer.condition("b")
                    history.call("walk", "a", question, many=many, down=down)
                    if many is not None:
                        history.call("leading", many, "a", question, down=down)


if __name__ == "__main__":
    unittest.main()
