import unittest

from piecefacts.errors import BadCount, BadPoints, NoColumn, NoPiece, NothingToDo, NoVersion
from piecefacts.questions import where
from piecefacts.table import Table
from piecefacts.texts import show_table
from tests.any_values import ANY_VALUES, is_same
from tests.begun import assert_refused, check_table_examples
from tests.piece_model import facts_by_hand, is_integer

ROWS = [(1, 5), (3, 5), (9, None), (4, 0), (4, 2), (7, 2)]


def two_pieces():
    """Return a table with six rows, of which the first four stand in two pieces, and the last two are fresh."""
    table = Table("a", "b")
    table.put(*ROWS)
    table.pack(2)
    table.pack(2)
    return table


class ExamplesTest(unittest.TestCase):
    def test_examples_of_section_12(self):
        check_table_examples(self, """
>>> [table.pieces, table.ids_in(0), table.facts_at(0)]
[(0, 1), (0, 1, 2), (3, (('a', (5,), 0, 1, 9, ((2, 4), (1, 9))), ('b', (), 1, 5, 5, ((2, 10),))))]
>>> [table.drop(0), table.forget(2), table.tally(low).read, table.fold(0), table.pieces, table.tally(low).read, table.readings]
[None, None, (0,), (2,), (1, 2), (), 2]
""")


class CutTest(unittest.TestCase):
    def test_cut_points_are_those_of_now(self):
        table = Table("a", "b")
        table.put(*ROWS)
        wanted = []
        for points in [((), ()), ((4,), ()), ((4,), (-9998, 0, 3, 9999)), ((), (2,))]:
            for name, cuts in zip("ab", points):
                self.assertIsNone(table.cut(name, *cuts))
            table.pack(1)
            wanted.append(points)
        for number, points in enumerate(wanted):
            self.assertEqual(table.facts_at(number), facts_by_hand(("a", "b"), points, [ROWS[number]]))
        self.assertEqual(table.version, 1)
        table.cut(column="a")
        self.assertNotIn("cut a", show_table(table))

    def test_columns_of_any_kind(self):
        table = two_pieces()
        for value in [*ANY_VALUES, "c", "ab", ("a",), "B"]:
            if value != "a" or value is True:
                assert_refused(self, [table], NoColumn, {"value": value}, table.cut, value)
                assert_refused(self, [table], NoColumn, {"value": value}, table.cut, value, 2, 1)

    def test_points_of_any_kind(self):
        table = two_pieces()
        for value in ANY_VALUES:
            if is_integer(value, -9998, 9999):
                self.assertIsNone(table.cut("b", value))
            else:
                assert_refused(self, [table], BadPoints, {"value": (value,)}, table.cut, "b", value)
                assert_refused(self, [table], BadPoints, {"value": (-3, value, 9)}, table.cut, "b", -3, value, 9)

    def test_points_that_are_none(self):
        table = two_pieces()
        for points in [(-9999,), (10000,), (1, 1), (2, 1), (1, 2, 3, 4, 5), (1, 3, 2), ((1, 2),), ([1],), (1, True), (None,),
                       (0, "1")]:
            assert_refused(self, [table], BadPoints, {"value": points}, table.cut, "a", *points)
        for points in [(-9998,), (9999,), (-9998, 9999), (1, 2, 3, 4), (0,)]:
            table.cut("a", *points)
            self.assertIn(" ".join(["cut a", *map(str, points)]), show_table(table))


class PackTest(unittest.TestCase):
    def test_the_first_fresh_rows_are_packed(self):
        table = Table("a", "b")
        table.put(*ROWS * 5)
        self.assertEqual((table.pack(3), table.pack(many=1), table.pack(), table.pack(20)), (0, 1, 2, 3))
        self.assertEqual([table.ids_in(number) for number in range(4)],
                         [(0, 1, 2), (3,), tuple(range(4, 24)), tuple(range(24, 30))])
        self.assertEqual(table.pieces, (0, 1, 2, 3))
        self.assertEqual((table.version, table.readings), (1, 0))
        self.assertEqual(table.facts_at(1), facts_by_hand(("a", "b"), ((), ()), [ROWS[3]]))
        self.assertEqual(table.facts_at(2), facts_by_hand(("a", "b"), ((), ()), (ROWS * 5)[4:24]))

    def test_rows_that_are_there_but_not_live_are_packed(self):
        table = Table("a", "b")
        table.put(*ROWS)
        table.drop(0, 2)
        table.pack(2)
        self.assertEqual(table.ids_in(0), (0, 1))
        self.assertEqual(table.facts_at(0), facts_by_hand(("a", "b"), ((), ()), ROWS[:2]))

    def test_rows_that_are_gone_are_not_packed(self):
        table = Table("a", "b")
        table.put(*ROWS)
        table.drop(0, 2)
        table.forget(2)
        table.pack(2)
        self.assertEqual(table.ids_in(0), (1, 3))
        table.drop(1, 3, 4, 5)
        table.forget(3)
        self.assertEqual((table.pieces, table.ids()), ((), ()))
        assert_refused(self, [table], NothingToDo, {}, table.pack)

    def test_many_of_any_kind(self):
        table = two_pieces()
        for value in [*ANY_VALUES, 0, 21, 20.5 > 20, "2", (2,)]:
            if not is_integer(value, 1, 20):
                assert_refused(self, [table], BadCount, {"value": value}, table.pack, value)
        table.pack(20)
        for value in (1, 20):
            assert_refused(self, [table], NothingToDo, {}, table.pack, value)
        for value in (0, 21, True, None):
            assert_refused(self, [table], BadCount, {"value": value}, table.pack, value)

    def test_an_empty_table_has_nothing_to_pack(self):
        table = Table("a")
        assert_refused(self, [table], NothingToDo, {}, table.pack)
        assert_refused(self, [table], BadCount, {"value": 0}, table.pack, 0)


class ForgetTest(unittest.TestCase):
    def test_versions_before_are_not_kept(self):
        table = two_pieces()
        table.drop(1)
        table.put((0, 0))
        self.assertIsNone(table.forget(version=2))
        self.assertEqual((table.since, table.version), (2, 3))
        for at in (0, 1):
            assert_refused(self, [table], NoVersion, {"value": at}, table.ids, at=at)
        self.assertEqual(table.ids(at=2), (0, 2, 3, 4, 5))
        table.forget(2)
        self.assertEqual(table.since, 2)
        assert_refused(self, [table], NoVersion, {"value": 1}, table.forget, 1)
        table.forget(3)
        self.assertEqual((table.since, table.ids(at=3)), (3, (0, 2, 3, 4, 5, 6)))

    def test_versions_of_any_kind(self):
        table = two_pieces()
        for value in [*ANY_VALUES, 2, -1, (1,)]:
            if not is_integer(value, 0, 1):
                assert_refused(self, [table], NoVersion, {"value": value}, table.forget, value)

    def test_pieces_of_which_nothing_is_there_are_gone(self):
        table = two_pieces()
        table.drop(0)
        table.drop(1)
        table.forget(2)
        self.assertEqual((table.pieces, table.ids_in(0)), ((0, 1), (0, 1)))
        self.assertIn("row 0 1 2 1 5", show_table(table))
        self.assertEqual(table.facts_at(0), facts_by_hand(("a", "b"), ((), ()), ROWS[:2]))
        table.forget(3)
        self.assertEqual(table.pieces, (1,))
        self.assertNotIn("row 0", show_table(table))
        self.assertNotIn("row 1", show_table(table))
        for function in (table.ids_in, table.facts_at, table.fold):
            assert_refused(self, [table], NoPiece, {"value": 0}, function, 0)
        self.assertEqual(table.pack(), 2)

    def test_fresh_rows_that_are_not_there_are_gone(self):
        table = two_pieces()
        table.drop(4)
        table.forget(1)
        self.assertIn("row 4 1 2 4 2", show_table(table))
        table.forget(2)
        self.assertNotIn("row 4", show_table(table))
        self.assertEqual(table.put((0, 0)), (6,))


class FoldTest(unittest.TestCase):
    def test_rows_that_are_there_are_packed_anew(self):
        table = two_pieces()
        table.drop(1, 3)
        table.cut("a", 2)
        table.put((8, 8))
        table.forget(2)
        self.assertEqual(table.fold(1, 0), (2,))
        self.assertEqual((table.pieces, table.ids_in(2), table.readings, table.held, table.version), ((2,), (0, 2), 2, (), 3))
        self.assertEqual(table.facts_at(2), facts_by_hand(("a", "b"), ((2,), ()), [ROWS[0], ROWS[2]]))
        self.assertNotIn("row 1", show_table(table))
        assert_refused(self, [table], NoPiece, {"value": 0}, table.fold, 0)

    def test_rows_that_are_there_but_not_live_are_kept(self):
        table = two_pieces()
        table.drop(0, 1, 2, 3)
        self.assertEqual(table.fold(0, 1), (2,))
        self.assertEqual((table.ids_in(2), table.ids(), table.ids(at=1)), ((0, 1, 2, 3), (4, 5), (0, 1, 2, 3, 4, 5)))
        self.assertEqual(table.matching(where("a", ((1, 3),)), at=1).told, (0, 1))

    def test_more_than_20_rows(self):
        table = Table("a")
        table.put(*[(k,) for k in range(70)])
        for _ in range(4):
            table.pack()
        table.drop(3, 30, 69)
        table.forget(2)
        self.assertEqual(table.fold(2, 0, 3), (4, 5, 6))
        ids = [row_id for row_id in range(70) if row_id // 20 != 1 and row_id not in (3, 30, 69)]
        self.assertEqual([table.ids_in(number) for number in (4, 5, 6)], [tuple(ids[:20]), tuple(ids[20:40]), tuple(ids[40:])])
        self.assertEqual((table.pieces, table.readings), ((1, 4, 5, 6), 3))
        self.assertEqual(table.fold(4, 5), (7, 8))
        self.assertEqual((table.ids_in(7), table.ids_in(8)), (tuple(ids[:20]), tuple(ids[20:40])))

    def test_facts_of_other_pieces_stay(self):
        table = two_pieces()
        facts = table.facts_at(0)
        table.drop(0)
        table.cut("a", 2)
        table.cut("b", 1, 2)
        table.forget(2)
        table.fold(1)
        table.pack()
        self.assertEqual(table.facts_at(0), facts)
        self.assertEqual(table.facts_at(2), facts_by_hand(("a", "b"), ((2,), (1, 2)), ROWS[2:4]))

    def test_held_pieces_are_not_read(self):
        table = two_pieces()
        table.hold(3)
        table.shown(3)
        table.fold(1, 0)
        self.assertEqual((table.readings, table.held), (2, ()))
        table.fold(2)
        self.assertEqual((table.readings, table.held), (3, ()))

    def test_pieces_of_any_kind(self):
        table = two_pieces()
        for value in [*ANY_VALUES, 2, -1, (0,), [1]]:
            if is_integer(value, 0, 1):
                continue
            for function in (table.fold, table.ids_in, table.facts_at):
                assert_refused(self, [table], NoPiece, {"value": value}, function, value)
            assert_refused(self, [table], NoPiece, {"value": value}, table.fold, 1, value, 1)
        assert_refused(self, [table], NoPiece, {"value": 1}, table.fold, 0, 1, 1, "x")
        assert_refused(self, [table], NoPiece, {"value": True}, table.fold, 1, True)
        assert_refused(self, [table], NothingToDo, {}, table.fold)

    def test_pieces_are_given_by_name(self):
        table = two_pieces()
        self.assertTrue(is_same(table.ids_in(piece=1), (2, 3)))
        self.assertEqual(table.facts_at(piece=1), facts_by_hand(("a", "b"), ((), ()), ROWS[2:4]))


if __name__ == "__main__":
    unittest.main()
