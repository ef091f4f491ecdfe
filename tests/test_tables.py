import unittest

from piecefacts.errors import BadColumns, BadRow, NoRow, NoVersion
from piecefacts.table import Table
from piecefacts.texts import show_table
from tests.any_values import ANY_VALUES, is_same, nested
from tests.begun import assert_refused, check_table_examples
from tests.piece_model import is_integer

NEARLY_ROWS = [(), (1,), (1, 2, 3), [1, 2], (1, True), (False, 2), (1, "2"), (1, (2,)), (1, [2]), (10000, 1), (1, -10000),
               (None, 10 ** 30), ((1, 2),), ((1,), (2,)), "12", {1: 2}, None, 1, (1, None, None), (1, ())]
AT_METHODS = [("ids", ()), ("tally", (None,)), ("between", (None,)), ("reaches", (None, 1)), ("matching", (None,)),
              ("leading", (2, "a")), ("total", ("a",)), ("shown", (1,))]


def three_versions():
    """Return a table with the versions 0 to 3; row 0 is live at 1 and 2, row 1 from 1 on, row 2 at 3."""
    table = Table("a", "b")
    table.put((1, 2), (3, None))
    table.cut("a", 2)
    table.pack(1)
    table.put()
    table.put((9, 9))
    table.drop(0)
    return table


class ColumnsTest(unittest.TestCase):
    def test_columns(self):
        for columns in [("a",), ("a", "b"), ("b", "a"), ("z", "abcdefgh", "andor", "o"), ("an", "ands", "ord", "a")]:
            self.assertTrue(is_same(Table(*columns).columns, columns))

    def test_columns_that_are_none(self):
        for columns in [(), ("a", "a"), ("a", "b", "a"), ("a", "b", "c", "d", "e"), ("and",), ("or",), ("a", "or"), ("A",),
                        ("abcdefghi",), ("a1",), ("",), (" a",), (("a",),), (["a"], "a"), ("a", None), ("a", 1), ("a", True),
                        (("a", "b"),), ({"a": 1},), ("\u00e4",), ("a\n",)]:
            assert_refused(self, [], BadColumns, {"value": columns}, Table, *columns)

    def test_columns_of_any_kind(self):
        for value in ANY_VALUES:
            if value in ("a", "abcdefgh"):
                self.assertEqual(Table(value).columns, (value,))
            else:
                assert_refused(self, [], BadColumns, {"value": (value,)}, Table, value)
            if value != "a":
                assert_refused(self, [], BadColumns, {"value": ("a", value, "a")}, Table, "a", value, "a")


class RowsTest(unittest.TestCase):
    def test_examples_of_section_11(self):
        check_table_examples(self, """
>>> [first_ids, begun, table.version, table.change(2, (9, 9)), table.version, table.ids(), table.ids(at=1), len(table)]
[(0, 1, 2, 3, 4, 5), [None, 0, 1], 1, 6, 2, (0, 1, 3, 4, 5, 6), (0, 1, 2, 3, 4, 5), 6]
>>> table.drop(3, 3)
raises NoRow(value=3)
""")

    def test_an_empty_table(self):
        table = Table("a")
        self.assertEqual((table.version, table.since, table.ids(), len(table), table.pieces, table.held, table.readings),
                         (0, 0, (), 0, (), (), 0))
        self.assertNotIn(0, table)
        self.assertEqual(table.ids(at=0), ())

    def test_versions_and_ids(self):
        table = Table("a", "b")
        self.assertEqual(table.put((1, 2)), (0,))
        self.assertEqual(table.put((-9999, 9999), (None, None), (0, 0)), (1, 2, 3))
        self.assertEqual((table.put(), table.drop(), table.version), ((), None, 2))
        self.assertIsNone(table.drop(3, 0))
        self.assertEqual(table.change(1, (5, 5)), 4)
        self.assertEqual(table.change(row=(6, 6), row_id=4), 5)
        self.assertEqual(table.put((7, 7)), (6,))
        self.assertEqual(table.version, 6)
        self.assertEqual([table.ids(at=at) for at in range(7)],
                         [(), (0,), (0, 1, 2, 3), (1, 2), (2, 4), (2, 5), (2, 5, 6)])
        self.assertEqual((table.ids(), table.ids(at=None), len(table)), ((2, 5, 6), (2, 5, 6), 3))
        self.assertEqual([row_id in table for row_id in range(8)], [False, False, True, False, False, True, True, False])

    def test_rows_may_be_equal(self):
        table = Table("a")
        self.assertEqual(table.put((1,), (1,), (1,)), (0, 1, 2))
        table.drop(1)
        self.assertEqual(table.matching(None).told, (0, 2))

    def test_put_refuses_what_is_no_row(self):
        table = three_versions()
        for value in [*NEARLY_ROWS, *ANY_VALUES]:
            if type(value) is tuple and len(value) == 2 and all(part is None or is_integer(part, -9999, 9999) for part in value):
                table.put(value)
                continue
            assert_refused(self, [table], BadRow, {"value": value}, table.put, value)
            assert_refused(self, [table], BadRow, {"value": value}, table.put, (1, 2), value, (3, 4), "x")
            assert_refused(self, [table], BadRow, {"value": value}, table.change, 1, value)
        assert_refused(self, [table], BadRow, {"value": [2]}, table.put, (1, 2), [2], [3])

    def test_put_takes_the_least_and_the_greatest_values(self):
        table = Table("a")
        for value in (-9999, 9999, None, 0):
            self.assertTrue(table.put((value,)))
        for value in (-10000, 10000, True, False):
            assert_refused(self, [table], BadRow, {"value": (value,)}, table.put, (value,))

    def test_drop_refuses_what_is_no_id_of_a_live_row(self):
        table = three_versions()
        for value in [*ANY_VALUES, 0, 3, 4, -1, "1", (1,), [1], True]:
            if is_integer(value, 1, 2):
                continue
            assert_refused(self, [table], NoRow, {"value": value}, table.drop, value)
            assert_refused(self, [table], NoRow, {"value": value}, table.drop, 1, value, 2)
            assert_refused(self, [table], NoRow, {"value": value}, table.change, value, (1, 1))
            assert_refused(self, [table], NoRow, {"value": value}, table.change, value, value)
            self.assertNotIn(value, table)
        assert_refused(self, [table], NoRow, {"value": 1}, table.drop, 1, 2, 1, 2, "x")
        assert_refused(self, [table], NoRow, {"value": True}, table.drop, 1, True)

    def test_ids_that_are_live_at_earlier_versions_only(self):
        table = three_versions()
        self.assertEqual((table.ids(at=1), table.ids(at=2), table.ids(at=3)), ((0, 1), (0, 1, 2), (1, 2)))
        for function in (table.drop, table.change):
            arguments = (0, (1, 1))[:1 if function == table.drop else 2]
            assert_refused(self, [table], NoRow, {"value": 0}, function, *arguments)
        self.assertNotIn(0, table)

    def test_versions_of_any_kind(self):
        table = three_versions()
        table.forget(1)
        for name, arguments in AT_METHODS:
            for value in [*ANY_VALUES, 2, 3, 4, 0, (1,), "3"]:
                if value is None or is_integer(value, 1, 3):
                    getattr(table, name)(*arguments, at=value)
                else:
                    assert_refused(self, [table], NoVersion, {"value": value}, getattr(table, name), *arguments, at=value)
        for value in ANY_VALUES:
            if not (value is None or is_integer(value, 1, 3)):
                assert_refused(self, [table], NoVersion, {"value": value}, lambda: list(table.walk("a", at=value)))


class EqualityTest(unittest.TestCase):
    def assert_equal(self, one, other, wanted):
        self.assertIs(one == other, wanted)
        self.assertIs(one != other, not wanted)
        self.assertIs(other == one, wanted)

    def test_tables_are_equal_if_their_texts_are(self):
        self.assert_equal(three_versions(), three_versions(), True)
        self.assert_equal(Table("a"), Table("a"), True)
        self.assert_equal(Table("a", "b"), Table("b", "a"), False)
        changes = [lambda table: table.put((1, 2)), lambda table: table.drop(1), lambda table: table.cut("b", 3),
                   lambda table: table.pack(), lambda table: table.forget(1), lambda table: table.forget(3),
                   lambda table: table.fold(0), lambda table: table.hold(1), lambda table: table.change(1, (3, None)),
                   lambda table: table.cut("a"), lambda table: (table.cut("a"), table.pack())]
        texts = [show_table(three_versions())]
        for change in changes:
            one, other = three_versions(), three_versions()
            change(one)
            self.assert_equal(one, other, False)
            change(other)
            self.assert_equal(one, other, True)
            texts.append(show_table(one))
        self.assertEqual(len(set(texts)), len(texts))

    def test_a_reading_makes_tables_different(self):
        one, other = [Table("a"), Table("a")]
        for table in (one, other):
            table.put((1,), (2,))
            table.pack()
        one.shown(0)
        self.assert_equal(one, other, False)
        other.shown(1)
        self.assert_equal(one, other, True)

    def test_a_table_equals_nothing_else(self):
        table = three_versions()
        for value in [*ANY_VALUES, show_table(table), ("a", "b")]:
            self.assert_equal(table, value, False)

    def test_any_value_can_be_looked_for(self):
        table = three_versions()
        for value in [*ANY_VALUES, nested(1, 19)]:
            self.assertIs(value in table, type(value) is int and value in (1, 2))


if __name__ == "__main__":
    unittest.main()
