import random
import unittest

from piecefacts.errors import NoRow, NothingToDo, TooMany
from piecefacts.joining import meeting
from piecefacts.questions import where
from piecefacts.table import Table
from piecefacts.texts import show_table
from tests.any_values import ANY_VALUES, is_same
from tests.begun import assert_refused, check_table_examples
from tests.histories import Drawer, History, properties
from tests.test_answers import begun
from tests.test_histories import BlockFailed, try_out, wander

CHANGES = [
    lambda table: table.put((1, 1), (2, 2)), lambda table: table.drop(0, 3), lambda table: table.change(2, (0, None)),
    lambda table: table.cut("b", 1, 2), lambda table: (table.put((5, 5)), table.pack()), lambda table: table.forget(1),
    lambda table: table.fold(1, 0), lambda table: table.hold(7), lambda table: table.hold(0), lambda table: table.shown(0),
    lambda table: table.leading(9, "a"), lambda table: list(table.walk("a")),
    lambda table: meeting(table, "a", None, begun(), "a", None), lambda table: (table.drop(0, 1, 2), table.forget(2)),
]


def held_begun():
    """Return the table of the document's examples, with a held piece."""
    table = begun()
    table.hold(2)
    table.shown(3)
    return table


def seen(table):
    """Return all that can be seen of a table at once."""
    return (show_table(table), table.version, table.since, table.ids(), table.pieces, table.held, table.readings, len(table),
            [table.ids(at=at) for at in range(table.since, table.version + 1)], [table.facts_at(n) for n in table.pieces])


class ExamplesTest(unittest.TestCase):
    def test_examples_of_section_20(self):
        check_table_examples(self, """
>>> [table.tried(lambda trial: [table.put((2, 2)), table.pack(), table.shown(0).read, table.readings]), table.version, table.pieces, table.readings, table.put((3, 3))]
[[(6,), 2, (0,), 1], 1, (0, 1), 0, (6,)]
""")


class TrialTest(unittest.TestCase):
    def test_what_is_not_kept_leaves_nothing(self):
        for change in CHANGES:
            table, plain = held_begun(), held_begun()
            before = seen(table)
            with table.trial():
                change(table)
                change(plain)
                self.assertTrue(is_same(seen(table), seen(plain)))
            self.assertTrue(is_same(seen(table), before))
            self.assertEqual(table, held_begun())

    def test_what_is_kept_stays(self):
        for change in CHANGES:
            table, plain = held_begun(), held_begun()
            change(plain)
            with table.trial() as trial:
                self.assertIsNone(trial.keep())
                change(table)
            self.assertTrue(is_same(seen(table), seen(plain)))
            with table.trial() as trial:
                table.put((4, 4))
                trial.keep()
                trial.keep()
            plain.put((4, 4))
            self.assertEqual(table, plain)

    def test_after_all_changes_everything_is_as_it_was(self):
        for seed in range(30):
            chance = random.Random(seed)
            table = held_begun()
            before = seen(table)
            with table.trial():
                for change in [*chance.sample(CHANGES[3:13], 6), *CHANGES[:3]]:
                    change(table)
            self.assertTrue(is_same(seen(table), before))
            table.put((8, 8))
            self.assertEqual((table.ids()[-1], table.pack()), (6, 2))

    def test_ids_versions_and_numbers_are_given_again(self):
        table = begun()
        with table.trial():
            self.assertEqual((table.put((1, 1)), table.version, table.pack()), ((6,), 2, 2))
        self.assertEqual((table.put((2, 2)), table.version, table.pack()), ((6,), 2, 2))
        with table.trial() as trial:
            self.assertEqual((table.put((1, 1)), table.version, table.pack()), ((7,), 3, 3))
            trial.keep()
        self.assertEqual((table.put((2, 2)), table.version, table.pack()), ((8,), 4, 4))

    def test_a_block_that_ends_with_an_error_is_not_kept(self):
        table = begun()
        before = seen(table)
        for error in (BlockFailed(), KeyError("x"), KeyboardInterrupt(), SystemExit()):
            with self.assertRaises(type(error)) as caught:
                with table.trial() as trial:
                    trial.keep()
                    table.put((1, 1))
                    raise error
            self.assertIs(caught.exception, error)
            self.assertTrue(is_same(seen(table), before))
        with self.assertRaises(NoRow):
            with table.trial() as trial:
                table.put((1, 1))
                trial.keep()
                table.drop(6, 9)
        self.assertTrue(is_same(seen(table), before))

    def test_an_error_that_is_caught_in_the_block_does_not_end_it(self):
        table = begun()
        with table.trial() as trial:
            table.put((1, 1))
            assert_refused(self, [table], NoRow, {"value": 7}, table.drop, 7)
            trial.keep()
        self.assertEqual(table.ids()[-1], 6)

    def test_a_block_that_is_left_otherwise(self):
        table = begun()

        def leave(kept):
            for _ in range(2):
                with table.trial() as trial:
                    table.put((1, 1))
                    if kept:
                        trial.keep()
                        return 5
                    continue
            return 6

        self.assertEqual((leave(False), table.version), (6, 1))
        self.assertEqual((leave(True), table.version), (5, 2))

    def test_one_within_another(self):
        for outer in (False, True):
            for inner in (False, True):
                table = begun()
                with table.trial() as one:
                    table.put((1, 1))
                    with table.trial() as other:
                        table.put((2, 2))
                        table.drop(0)
                        if inner:
                            other.keep()
                    self.assertEqual(table.ids(), (1, 2, 3, 4, 5, 6, 7) if inner else (0, 1, 2, 3, 4, 5, 6))
                    table.put((3, 3))
                    if outer:
                        one.keep()
                wanted = {(True, True): (1, 2, 3, 4, 5, 6, 7, 8), (True, False): (0, 1, 2, 3, 4, 5, 6, 7)}
                self.assertEqual(table.ids(), wanted.get((outer, inner), (0, 1, 2, 3, 4, 5)))

    def test_keep_belongs_to_its_own_trial(self):
        table = begun()
        with table.trial() as one:
            table.put((1, 1))
            with table.trial():
                one.keep()
                table.put((2, 2))
        self.assertEqual(table.ids(), (0, 1, 2, 3, 4, 5, 6))

    def test_one_behind_the_other(self):
        table = begun()
        for _ in range(9):
            with table.trial():
                table.put((1, 1))
        for k in range(6):
            with table.trial() as trial:
                table.put((1, 1))
                trial.keep()
            self.assertEqual(table.ids()[-1], 6 + k)

    def test_a_trial_goes_back_to_where_its_block_began(self):
        table = begun()
        trial = table.trial()
        table.put((1, 1))
        before = seen(table)
        with table.trial(), table.trial(), table.trial():
            with trial:
                table.put((2, 2))
                assert_refused(self, [table], TooMany, {"limit": 4}, table.tried, lambda _: None)
            self.assertTrue(is_same(seen(table), before))
            table.tried(lambda _: table.put((3, 3)))
        self.assertTrue(is_same(seen(table), before))

    def test_a_fifth_trial(self):
        table, other = begun(), begun()
        with table.trial(), table.trial() as second, table.trial(), table.trial():
            table.put((1, 1))
            text = show_table(table)
            for _ in range(2):
                with self.assertRaises(TooMany) as caught:
                    with table.trial():
                        self.fail("a fifth trial")
                self.assertEqual(vars(caught.exception), {"limit": 4})
                assert_refused(self, [table], TooMany, {"limit": 4}, table.tried, lambda trial: self.fail("a fifth trial"))
            self.assertEqual(show_table(table), text)
            with other.trial(), other.trial(), other.trial(), other.trial():
                other.put((1, 1))
            second.keep()
        self.assertEqual((table, table), (begun(), other))
        with table.trial(), table.trial():
            self.assertEqual(table.tried(lambda trial: table.tried(lambda last: table.put((1, 1)))), (6,))
        self.assertEqual(table, begun())

    def test_answers_stay_what_they_are(self):
        table = begun()
        with table.trial():
            table.put((1, 5))
            table.pack()
            answers = [table.tally(where("a", ((1, 3),))), table.leading(3, "a"), table.matching(where("b", ((2, 2),)))]
            before = [properties(answer) for answer in answers]
        table.put((9, 9))
        self.assertTrue(is_same([properties(answer) for answer in answers], before))
        self.assertEqual(answers[0].told, 3)

    def test_two_tables(self):
        one, other = begun(), begun()
        with one.trial() as kept, other.trial():
            meeting(one, "a", None, other, "a", None)
            self.assertEqual((one.readings, other.readings), (2, 2))
            kept.keep()
        self.assertEqual((one.readings, other.readings), (2, 0))


class TriedTest(unittest.TestCase):
    def test_it_returns_what_the_deed_returns(self):
        table = begun()
        for value in [*ANY_VALUES, table, table.tally(None)]:
            self.assertIs(table.tried(lambda trial: value), value)
        self.assertIs(table.tried(deed=lambda trial: table), table)

    def test_kept_and_not_kept(self):
        table = begun()
        self.assertEqual(table.tried(lambda trial: table.put((1, 1))), (6,))
        self.assertEqual(table, begun())
        self.assertEqual(table.tried(lambda trial: (trial.keep(), table.put((1, 1)))), (None, (6,)))
        self.assertEqual(table.ids(), (0, 1, 2, 3, 4, 5, 6))

    def test_deeds_that_end_with_an_error(self):
        table = begun()

        def deed(trial):
            trial.keep()
            table.put((1, 1))
            table.fold(0, 1)
            return table.fold()

        for _ in range(6):
            assert_refused(self, [table], NothingToDo, {}, table.tried, deed)
        self.assertEqual(table, begun())


class HistoriesTest(unittest.TestCase):
    def test_trials_of_any_depth(self):
        for seed in range(25):
            chance = random.Random(seed)
            drawer = Drawer(chance, ("a", "b"), [None, 0, 1, 2, 3])
            history = History(self, ("a", "b"))
            history.call("put", *[drawer.row() for _ in range(12)])
            history.call("pack", 5)
            for _ in range(4):
                try_out(chance, drawer, history, 1)
                wander(chance, drawer, history, 2)
            history.check_all()


if __name__ == "__main__":
    unittest.main()
