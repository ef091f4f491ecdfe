import random
import unittest

from piecefacts.errors import BadCount
from piecefacts.joining import meeting
from piecefacts.questions import where
from piecefacts.table import Table
from tests.any_values import ANY_VALUES
from tests.begun import assert_refused, check_table_examples
from tests.candidate_tables import small_history
from tests.piece_model import is_integer
from tests.test_answers import begun


def many_pieces(many):
    """Return a table with so many pieces of two rows each: piece k has the ids 2k and 2k + 1."""
    table = Table("a")
    table.put(*[(k * k,) for k in range(2 * many)])
    for _ in range(many):
        table.pack(2)
    return table


class HeldTest(unittest.TestCase):
    def test_examples_of_section_19(self):
        check_table_examples(self, """
>>> both = low & five
>>> [table.hold(1), table.tally(both).read, table.tally(both).read, table.held, table.shown(3).read, table.held, table.tally(both).read]
[None, (0,), (), (0,), (1,), (1,), (0,)]
""")

    def test_numbers_of_any_kind(self):
        table = begun()
        for value in [*ANY_VALUES, 12, 13, -1, True, "1"]:
            if is_integer(value, 0, 12):
                self.assertIsNone(table.hold(value))
            else:
                assert_refused(self, [table], BadCount, {"value": value}, table.hold, value)

    def test_numbers_from_0_to_12(self):
        for most in range(13):
            table = many_pieces(14)
            table.hold(most=most)
            for number in [3, 0, 5, 1, 2, 4, 6, 7, 8, 9, 10, 11, 12, 13]:
                table.shown(2 * number)
            self.assertEqual(table.held, tuple([3, 0, 5, 1, 2, 4, 6, 7, 8, 9, 10, 11, 12, 13][14 - most:]))
            self.assertEqual(table.readings, 14)

    def test_nothing_is_held_at_first(self):
        table = many_pieces(2)
        table.shown(0)
        self.assertEqual(table.held, ())
        table.hold(2)
        self.assertEqual(table.held, ())

    def test_a_reading_puts_its_piece_behind_the_others(self):
        table = many_pieces(4)
        table.hold(3)
        for row_id, held in [(0, (0,)), (2, (0, 1)), (1, (0, 1)), (4, (0, 1, 2)), (3, (0, 1, 2)), (6, (1, 2, 3)), (0, (2, 3, 0))]:
            table.shown(row_id)
            self.assertEqual(table.held, held)

    def test_a_smaller_number_lets_the_first_ones_go(self):
        table = many_pieces(4)
        table.hold(4)
        for row_id in (6, 0, 4, 2):
            table.shown(row_id)
        for most, held in [(4, (3, 0, 2, 1)), (2, (2, 1)), (12, (2, 1)), (1, (1,)), (0, ()), (3, ())]:
            table.hold(most)
            self.assertEqual(table.held, held)

    def test_pieces_that_are_gone_take_no_place(self):
        table = many_pieces(5)
        table.hold(3)
        for row_id in (0, 2, 4, 6):
            table.shown(row_id)
        self.assertEqual(table.held, (1, 2, 3))
        table.fold(2)
        self.assertEqual((table.held, table.readings), ((1, 3), 4))
        table.drop(2, 3)
        table.forget(2)
        self.assertEqual(table.held, (3,))
        table.shown(4)
        table.shown(8)
        self.assertEqual((table.held, table.pieces), ((3, 5, 4), (0, 3, 4, 5)))
        table.fold(0)
        self.assertEqual((table.held, table.readings), ((3, 5, 4), 7))

    def test_held_pieces_are_known_to_all_calls(self):
        table = begun()
        table.hold(2)
        low = where("a", ((1, 3),))
        question = low & where("b", ((5, 5),))
        table.tally(where("b", ((2, 5),)) & where("a", ((1, 4),)))
        self.assertEqual((table.held, table.readings), ((0, 1), 2))
        answers = [table.tally(question), table.matching(low), table.shown(2), table.leading(3, "a"),
                   table.total("a", where("b", ((5, 5),))), table.reaches(question, 2),
                   meeting(table, "a", None, Table("k"), "k", None)]
        for answer in answers:
            self.assertEqual((answer.read, answer.passed), ((), ()))
        self.assertEqual(table.between(question), (2,))
        self.assertEqual(list(table.walk("a", down=True)), [(9, 2), (7, 5), (4, 3), (4, 4), (3, 1), (1, 0)])
        self.assertEqual((table.fold(1, 0), table.readings, table.held), ((2,), 2, ()))

    def test_a_piece_that_is_let_go_within_a_call_stays_known_to_it(self):
        table = many_pieces(3)
        table.hold(1)
        table.shown(0)
        answer = table.leading(6, "a")
        self.assertEqual((answer.read, table.held, answer.told[0]), ((1, 2), (2,), (0, 0)))

    def test_trials_bring_held_pieces_back(self):
        table = many_pieces(4)
        table.hold(2)
        table.shown(0)
        table.shown(2)
        with table.trial():
            table.shown(4)
            self.assertEqual(table.held, (1, 2))
            table.hold(5)
            table.fold(1)
            self.assertEqual(table.held, (2,))
        self.assertEqual((table.held, table.readings), ((0, 1), 2))
        table.shown(4)
        self.assertEqual(table.held, (1, 2))

    def test_the_same_is_told_with_and_without(self):
        for seed in range(40):
            history, drawer = small_history(self, seed, rows=12)
            chance = random.Random(seed)
            for _ in range(12):
                if chance.random() < 0.3:
                    history.call("hold", chance.randint(0, 4))
                name, arguments, named = drawer.ask(history.plain)
                history.call(name, *arguments, **named)


if __name__ == "__main__":
    unittest.main()
