import inspect
import itertools
import random
import unittest

from piecefacts import joining
from piecefacts.covers import least_cover, most_pairs
from piecefacts.errors import NoColumn, NoVersion, SameTable
from piecefacts.joining import meeting
from piecefacts.questions import where
from piecefacts.ranges import both, holds
from piecefacts.table import Table
from tests.any_values import ANY_VALUES, is_same
from tests.begun import assert_refused, check_table_examples
from tests.candidate_tables import known_rows, met_among, shares, small_history
from tests.histories import Drawer, History, meet, properties
from tests.piece_model import is_integer
from tests.plain_table import least_cover_of
from tests.test_answers import begun


def in_pieces(*pieces, column="a"):
    """Return a table with one column and these pieces, each given by its values."""
    table = Table(column)
    for values in pieces:
        table.put(*[(value,) for value in values])
        table.pack(len(values))
    return table


class ExamplesTest(unittest.TestCase):
    def test_examples_of_section_18(self):
        check_table_examples(self, """
>>> from piecefacts.joining import meeting
>>> other = Table('k')
>>> begun = [other.put((1,), (2,), (4,), (8,)), other.pack(2), other.pack(2)]
>>> answer = meeting(table, 'a', None, other, 'k', None)
>>> [answer.told, answer.read, answer.cover, answer.pairs]
[((0, 0), (3, 2), (4, 2)), ((0, 0), (0, 1), (1, 0), (1, 1)), ((0, 0), (0, 1)), ((0, 0), (1, 1))]
""")
        check_table_examples(self, """
>>> from piecefacts.joining import meeting
>>> other = Table('k')
>>> begun = [other.put((2,), (6,), (4,), (8,)), other.pack(2), other.pack(2)]
>>> answer = meeting(table, 'a', None, other, 'k', None)
>>> [answer.told, answer.read, answer.passed]
[((3, 2), (4, 2)), ((0, 1), (1, 1)), (((0, 0), ((1, 1), (3, 3), (9, 9))), ((1, 0), ((2, 2), (6, 6))))]
""")

    def test_interface(self):
        self.assertEqual(meeting.__module__, "piecefacts.joining")
        self.assertEqual(str(inspect.signature(joining.meeting)),
                         "(one, column, question, other, column_there, question_there, *, at=None, at_there=None)")


class ErrorsTest(unittest.TestCase):
    def refused(self, error, kept, *arguments, **named):
        assert_refused(self, [arguments[0], arguments[3]], error, kept, meeting, *arguments, **named)

    def test_errors_in_their_sequence(self):
        one, other = begun(), Table("k")
        bad, worse = where("k", ()), where("a", ()) & where("zz", ())
        wrong = {"at": 2, "at_there": 1}
        for there in (other, one):
            self.refused(NoColumn, {"value": "k"}, one, "k", worse, there, "b", worse, **wrong)
            self.refused(NoColumn, {"value": "zz"}, one, "a", worse, there, "zz", worse, **wrong)
            self.refused(NoColumn, {"value": "zz"}, one, "b", None, there, "zz", worse, **wrong)
        self.refused(NoColumn, {"value": "k"}, one, "b", bad, other, "a", bad, **wrong)
        self.refused(NoColumn, {"value": "a"}, one, "b", None, other, "a", bad, **wrong)
        self.refused(NoColumn, {"value": "a"}, one, "b", None, other, "k", worse, **wrong)
        self.refused(NoVersion, {"value": 2}, one, "b", None, other, "k", bad, **wrong)
        self.refused(NoVersion, {"value": 1}, one, "b", None, other, "k", bad, at=1, at_there=1)
        self.refused(NoVersion, {"value": True}, one, "b", None, one, "a", None, at=1, at_there=True)
        self.refused(SameTable, {}, one, "b", None, one, "a", None, at=1, at_there=0)
        self.refused(SameTable, {}, one, "a", None, one, "a", where("a", ()))

    def test_arguments_of_any_kind(self):
        one, other = begun(), begun()
        for value in [*ANY_VALUES, "c", ("a",)]:
            if value != "a":
                self.refused(NoColumn, {"value": value}, one, value, None, other, value, None, at=value)
                self.refused(NoColumn, {"value": value}, one, "a", None, other, value, None, at=value)
            if not (value is None or is_integer(value, 0, 1)):
                self.refused(NoVersion, {"value": value}, one, "a", None, other, "a", None, at=value)
                self.refused(NoVersion, {"value": value}, one, "a", None, other, "a", None, at_there=value)
                self.refused(NoVersion, {"value": value}, one, "a", None, one, "a", None, at_there=value)

    def test_equal_tables_are_not_the_same(self):
        one, other = begun(), begun()
        self.assertEqual(one, other)
        self.assertEqual(meeting(one, "a", None, other, "a", None).told,
                         ((0, 0), (1, 1), (2, 2), (3, 3), (3, 4), (4, 3), (4, 4), (5, 5)))


class MeetingTest(unittest.TestCase):
    def check(self, answer, **wanted):
        found = properties(answer)
        self.assertTrue(is_same({name: found[name] for name in wanted}, wanted), found)
        self.assertEqual(set(found), {"told", "read", "passed", "cover", "pairs"})

    def test_fresh_rows(self):
        one, other = Table("a"), Table("b", "c")
        one.put((1,), (None,), (2,), (1,))
        other.put((2, 1), (None, 1), (1, None), (1, 0))
        self.check(meeting(one, "a", None, other, "b", None), told=((0, 2), (0, 3), (2, 0), (3, 2), (3, 3)), read=(),
                   passed=(), cover=(), pairs=())
        self.check(meeting(other, "c", None, one, "a", where("a", ((1, 1),))), told=((0, 0), (0, 3), (1, 0), (1, 3)))
        self.check(meeting(at_there=0, at=1, question_there=None, column_there="b", other=other, question=None, column="a",
                           one=one), told=())

    def test_rounds(self):
        one, other = in_pieces((2, 3), (5, 9)), in_pieces((1, 2), (3, 5), (20, 30))
        one.put((1,))
        self.check(meeting(one, "a", None, other, "a", None), told=((0, 1), (1, 2), (2, 3), (4, 0)),
                   read=((1, 0), (0, 0), (1, 1), (0, 1)), passed=(((1, 2), ((20, 20), (30, 30))),), cover=(), pairs=())

    def test_one_round_takes_all_that_may_meet_when_it_begins(self):
        one, other = in_pieces((2, 3), (4, 5)), in_pieces((2, 4), (1, 9))
        one.put((9,))
        other.put((5,))
        self.check(meeting(one, "a", None, other, "a", None), read=((0, 1), (1, 1), (1, 0), (0, 0)), cover=())

    def test_smallest_and_least_cover(self):
        one, other = in_pieces((1, 2), (2, 3), (4, 5)), in_pieces((1, 3), (2, 9), (4, 6), (5, 7))
        self.check(meeting(one, "a", None, other, "a", None), cover=((0, 0), (0, 1), (0, 2)),
                   read=((0, 0), (0, 1), (0, 2), (1, 0), (1, 1), (1, 2), (1, 3)))
        one, other = in_pieces((1, 9), (2, 9), (3, 9)), in_pieces((9, 10))
        answer = meeting(one, "a", None, other, "a", None)
        self.check(answer, cover=((1, 0),), read=((1, 0), (0, 0), (0, 1), (0, 2)))
        self.assertIn(answer.pairs, (((0, 0),), ((1, 0),), ((2, 0),)))

    def test_pieces_that_do_not_meet_after_the_cover_are_passed(self):
        one, other = in_pieces((1, 4, 6, 9), (2, 10)), in_pieces((3, 8), (20, 20))
        self.check(meeting(one, "a", None, other, "a", None), told=(), read=((0, 0),), cover=((0, 0),), pairs=((0, 0),),
                   passed=(((0, 1), ((2, 2), (10, 10))), ((1, 0), ((3, 3), (8, 8)))))

    def test_constant_pieces_are_known(self):
        one, other = in_pieces((4, 4), (None, None), (7, None)), in_pieces((4, 8), (5, 5))
        self.check(meeting(one, "a", None, other, "a", None), told=((0, 0), (1, 0)), read=((1, 0),),
                   passed=(((0, 2), ((7, 7),)),), cover=())
        one.drop(0, 1, 2)
        self.check(meeting(one, "a", None, other, "a", None), told=(), read=(), cover=(),
                   passed=(((0, 0), ()), ((0, 2), ((7, 7),)), ((1, 0), ((4, 4), (8, 8)))))
        self.check(meeting(one, "a", where("a", ()), other, "a", None, at=3), told=(), read=(),
                   passed=(((0, 0), ()), ((0, 1), ()), ((0, 2), ()), ((1, 0), ((4, 4), (8, 8)))))

    def test_readings_count_in_their_own_tables(self):
        one, other = in_pieces((1, 2), (8, 9)), in_pieces((2, 3), (9, 10), (20, 21))
        other.hold(1)
        answer = meeting(one, "a", None, other, "a", None)
        self.check(answer, read=((0, 0), (0, 1), (1, 0), (1, 1)))
        self.assertEqual((one.readings, other.readings, one.held, other.held), (2, 2, (), (1,)))
        self.check(meeting(one, "a", None, other, "a", None), told=answer.told, read=((0, 1), (0, 0), (1, 0)),
                   passed=(((1, 2), ((20, 21),)),), cover=((0, 0),), pairs=((0, 0),))
        self.assertEqual((one.readings, other.readings, other.held), (4, 3, (0,)))

    def test_answers_stay_what_they_are(self):
        one, other = in_pieces((1, 2), (8, 9)), in_pieces((2, 3), (9, 10), (20, 21))
        answer = meeting(one, "a", None, other, "a", None)
        before = properties(answer)
        one.drop(0, 1)
        other.fold(0, 1, 2)
        self.assertTrue(is_same(properties(answer), before))

    def test_questions_that_have_the_columns(self):
        one, other = in_pieces((1, 2, 5), (8, 9, 12)), in_pieces((1, 2, 9), (12, 14, 20))
        low = where("a", ((1, 4), (10, 13)))
        answer = meeting(one, "a", low, other, "a", -low)
        self.check(answer, told=(), read=(), cover=(), pairs=(),
                   passed=(((0, 0), ((1, 2),)), ((0, 1), ((12, 12),)), ((1, 0), ((9, 9),)), ((1, 1), ((14, 14), (20, 20)))))


class CoversTest(unittest.TestCase):
    def test_against_all_sets(self):
        every = [(left, right) for left in range(3) for right in range(3)]
        chance = random.Random(3)
        cases = [[edge for edge in every if chance.random() < chance.choice([0.2, 0.5, 0.8])] for _ in range(200)]
        wide = [(left, right) for left in range(6) for right in range(5, 11)]
        cases += [[edge for edge in wide if chance.random() < chance.choice([0.1, 0.3])] for _ in range(40)]
        for edges in cases:
            wanted = least_cover_of([((0, left), (1, right)) for left, right in edges])
            self.assertEqual(least_cover(edges), wanted, edges)
            pairs = most_pairs(edges)
            self.assertEqual((len(pairs), list(pairs)), (len(wanted), sorted(pairs)))
            self.assertTrue(set(pairs) <= set(edges))
            self.assertEqual([len({pair[side] for pair in pairs}) for side in (0, 1)], [len(pairs)] * 2)

    def test_many_pieces(self):
        every = [(left, right) for left in range(12) for right in range(12)]
        self.assertEqual(least_cover(every), tuple((0, left) for left in range(12)))
        self.assertEqual(least_cover([edge for edge in every if edge[1] < 11]), tuple((1, right) for right in range(11)))
        chain = [(k, k) for k in range(12)] + [(k + 1, k) for k in range(11)]
        self.assertEqual(least_cover(chain), tuple((0, left) for left in range(12)))
        self.assertEqual(least_cover([]), ())


class CandidatesTest(unittest.TestCase):
    """What is read has to be read, and nothing else, by all candidates of small pieces."""

    def each_meeting(self, seeds):
        for seed in seeds:
            chance = random.Random(seed)
            here, one = small_history(self, seed, ("a", "b"), (None, 0, 1, 2, 3), 9)
            there, other = small_history(self, seed + 5000, ("b", "c"), (None, 2, 3, 4, 5), 9)
            for history in (here, there):
                if chance.random() < 0.7 and history.plain.fresh():
                    history.call("pack", 3)
            for _ in range(2):
                yield here, there, one.column(), one.question(), other.column(), other.question()

    def met(self, one, other, place, place_there):
        """Return the pairs of ids of (id, row) pairs that have the same value."""
        return tuple(sorted((row_id, other_id) for row_id, row in one for other_id, row_there in other
                            if row[place] is not None and row[place] == row_there[place_there]))

    def test_unread_pieces_make_no_difference(self):
        checked = 0
        for here, there, column, question, column_there, question_there in self.each_meeting(range(60)):
            names, questions = (column, column_there), (question, question_there)
            if any(name not in history.plain.columns for history, asked in zip((here, there), questions) if asked
                   for name in asked.columns):
                continue
            answer = meet(self, here, there, column, question, column_there, question_there)
            places = [history.plain.columns.index(name) for history, name in zip((here, there), names)]
            sides = []
            for side, history in enumerate((here, there)):
                plain, unread = history.plain, [place[1] for place, _ in answer.passed if place[0] == side]
                known = met_among(plain, questions[side], known_rows(plain, plain.version, unread))
                sides.append([known] + [share for number in unread
                                        for share in shares(plain, number, plain.version, questions[side])])
            known = self.met(sides[0][0], sides[1][0], *places)
            self.assertEqual(known, answer.told)
            for one, other in itertools.product(*sides):
                if one is not sides[0][0] or other is not sides[1][0]:
                    self.assertEqual(self.met(one, other, *places), ())
                    checked += 1
        self.assertGreater(checked, 1000)

    def test_pairs_need_a_reading_and_so_do_pieces_that_may_meet_known_rows(self):
        paired = rounds = 0
        for here, there, column, question, column_there, question_there in self.each_meeting(range(100, 260)):
            questions = question, question_there
            if any(name not in history.plain.columns for history, asked in zip((here, there), questions) if asked
                   for name in asked.columns):
                continue
            plains = here.plain, there.plain
            found = [[shares(plain, number, plain.version, asked) for number in range(plain.next_piece)]
                     for plain, asked in zip(plains, questions)]
            held = [list(plain.held) for plain in plains]
            answer = meet(self, here, there, column, question, column_there, question_there)
            places = plains[0].columns.index(column), plains[1].columns.index(column_there)
            for left, right in answer.pairs:
                told = {self.met(one, other, *places) for one in found[0][left] for other in found[1][right]}
                self.assertGreater(len(told), 1)
                paired += 1
            first = answer.read[:answer.read.index(answer.cover[0])] if answer.cover else answer.read
            for k, (side, number) in enumerate(first):
                others = [place[1] for place in [*answer.read[k:], *[entry[0] for entry in answer.passed]]
                          if place[0] != side and place[1] not in held[1 - side]]
                plain = plains[1 - side]
                known = met_among(plain, questions[1 - side], known_rows(plain, plain.version, others))
                told = {self.met(one, known, *places) if side == 0 else self.met(known, one, *places)
                        for one in found[side][number]}
                self.assertGreater(len(told), 1)
                rounds += 1
        self.assertGreater(min(paired, rounds), 15)


class LargeTest(unittest.TestCase):
    def test_many_pieces(self):
        for seed in range(4):
            chance = random.Random(seed)
            sides = []
            for columns in (("a", "b"), ("c", "d")):
                drawer = Drawer(chance, columns, [None, *range(0, 4000, 37)] if seed % 2 else list(range(12)))
                history = History(self, columns)
                history.call("put", *[drawer.row() for _ in range(30)])
                for many in (2, 3, 2, 3, 3, 3):
                    history.call("cut", drawer.column(), *drawer.points())
                    history.call("pack", many)
                if chance.random() < 0.7:
                    history.call("pack")
                sides.append((drawer, history))
            for _ in range(8):
                (one, here), (other, there) = chance.sample(sides, 2)
                meet(self, here, there, one.column(), one.question(), other.column(), other.question())


if __name__ == "__main__":
    unittest.main()
