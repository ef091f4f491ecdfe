import inspect
import itertools
import random
import unittest

from piecefacts import evidence
from piecefacts.errors import BadCount, NoColumn
from piecefacts.evidence import differing, settling, shows_candidate, shows_settled
from piecefacts.possible import possible_counts
from piecefacts.questions import read_question, where
from tests.any_values import ANY_VALUES, is_same, nested
from tests.examples import check_examples
from tests.piece_model import all_tuples, facts_by_hand, is_range_set, model_counts, model_settles, outcomes, variants
from tests.small_pieces import CUTS, random_cases
from tests.string_model import runs

SMALL = (3, (("b", (5,), 0, 1, 9, ((2, 4), (1, 9))), ("a", (), 1, 5, 8, ((2, 13),))))
ONE = (3, (("a", (), 0, 0, 10, ((3, 15),)),))
FOUR_TO_SIX = where("a", ((4, 6),))
START = ((0, 0),)
HUGE = ((-10 ** 30, 10 ** 30),)


def kinds(part):
    """Return values that are like a part, but of another kind."""
    found = [nested(part, 1), str(part), (part,)]
    found += [list(part), dict(enumerate(part))] if isinstance(part, tuple) else []
    return found + ([bool(part)] if part in (0, 1) else [])


def other_range_sets(part):
    """Return other range sets in the place of one, and other tuples in the place of one."""
    if not isinstance(part, tuple):
        return []
    found = [part[1:], part[:-1], part[::-1], part + part, part + part[-1:], part[:1] + part, ()]
    if is_range_set(part) and part:
        low, high = part[0][0], part[-1][1]
        numbers = {number for first, last in part for number in range(first, last + 1)}
        found += [tuple(runs(numbers | {extra})) for extra in (low - 1, low - 2, high + 1, high + 3)]
        found += [tuple(runs(numbers - {gone})) for gone in (low, high, (low + high) // 2)]
        found += [((low, high),), ((low - 4, high + 4),), ((low + 1, high + 1),), ((low, low),)]
    if part == ():
        found += [START, ((1, 2),), ((-3, 3),)]
    return found


def met_by(question, facts, rows):
    """Return how many rows meet a question."""
    names = [column[0] for column in facts[1]]
    return sum(question(dict(zip(names, row))) for row in rows)


class InterfaceTest(unittest.TestCase):
    def test_functions_are_defined_in_evidence_with_these_arguments(self):
        for name, arguments in [
            ("shows_candidate", ["facts", "value"]), ("differing", ["question", "facts", "live"]),
            ("settling", ["question", "facts", "live"]),
            ("shows_settled", ["question", "facts", "live", "least", "greatest", "value"]),
        ]:
            function = getattr(evidence, name)
            self.assertEqual(function.__module__, "piecefacts.evidence")
            self.assertEqual(list(inspect.signature(function).parameters), arguments)
        self.assertIs(shows_candidate(value=((0,), (10,), (5,)), facts=ONE), True)
        self.assertIsNone(differing(live=3, facts=ONE, question=FOUR_TO_SIX))
        found = settling(live=3, facts=ONE, question=FOUR_TO_SIX)
        self.assertIs(shows_settled(value=found, greatest=1, least=1, live=3, facts=ONE, question=FOUR_TO_SIX), True)

    def test_examples_of_section_9(self):
        check_examples(self, """
>>> from piecefacts.evidence import differing, settling, shows_settled
>>> from piecefacts.questions import where
>>> facts = (3, (('a', (), 0, 0, 10, ((3, 15),)),))
>>> question = where('a', ((4, 6),))
>>> [differing(question, facts, 3), shows_settled(question, facts, 3, 1, 1, settling(question, facts, 3))]
[None, True]
>>> within, outside, larger = (((0, 0),), ((4, 6),)), (((0, 0),), ((0, 3), (7, 10))), (((0, 0),), ((0, 10),))
>>> [shows_settled(question, facts, 3, 1, 1, (((within, outside),),)), shows_settled(question, facts, 3, 1, 1, (((within, larger),),)), shows_settled(question, facts, 3, 0, 1, (((within, larger),),))]
[True, False, True]
""")


class ErrorsTest(unittest.TestCase):
    def check_all(self, error, value, question, facts, live):
        """Check that each of the three functions raises an error."""
        calls = [(differing, ()), (settling, ()), (shows_settled, (0, 3, ())), (shows_settled, (0, 3, None))]
        for function, rest in calls:
            with self.assertRaises(error) as caught:
                function(question, facts, live, *rest)
            self.assertIs(caught.exception.value, value)

    def test_live_of_any_kind(self):
        for value in [*ANY_VALUES, 2, 3, 4, 21, -3, "3", (3,), [0]]:
            if type(value) is int and 0 <= value <= 3:
                self.assertIsNone(differing(FOUR_TO_SIX, ONE, value) if value == 3 else None)
                self.assertTrue(shows_settled(FOUR_TO_SIX, ONE, value, 0, 1, settling(FOUR_TO_SIX, ONE, value)))
            else:
                self.check_all(BadCount, value, FOUR_TO_SIX, ONE, value)

    def test_columns_of_the_question_come_first(self):
        for string, least in [("z=1", 0), ("a=1 and z=1", 1), ("c=1 or d=1", 0), ("a=1 and b=1 and (c=1 or d=1)", 2)]:
            question = read_question(string)
            for live in (0, 3, 4, -1, True, None, "1"):
                self.check_all(NoColumn, question.columns[least], question, SMALL, live)


class ShowsCandidateTest(unittest.TestCase):
    def test_all_rows_of_small_pieces(self):
        entries = [None, 0, 1, 2]
        for size in (1, 2, 3):
            for cuts in CUTS[:6]:
                pieces = {}
                for values in itertools.product(entries, repeat=size):
                    rows = tuple((value,) for value in values)
                    pieces.setdefault(facts_by_hand(("a",), (cuts,), rows), []).append(rows)
                for facts, candidates in pieces.items():
                    for others in pieces.values():
                        for rows in others:
                            self.assertIs(shows_candidate(facts, rows), rows in candidates)

    def test_columns_in_the_sequence_of_the_facts(self):
        rows = ((1, 5), (3, None), (9, 8))
        self.assertIs(shows_candidate(SMALL, rows), True)
        self.assertIs(shows_candidate(SMALL, ((1, 8), (9, None), (3, 5))), True)
        self.assertIs(shows_candidate(SMALL, tuple(row[::-1] for row in rows)), False)
        self.assertIs(shows_candidate((SMALL[0], SMALL[1][::-1]), tuple(row[::-1] for row in rows)), True)

    def test_rows_or_values_too_many_or_too_few(self):
        rows = ((1, 5), (3, None), (9, 8))
        for value in [rows[1:], rows + rows[:1], (*rows, (None, None)), (*rows, ()), ((), *rows), rows * 2,
                      ((1, 5, 0), (3, None, 0), (9, 8, 0)), ((1,), (3,), (9,)), ((1, 5), (3, None), (9, 8, None)),
                      ((1, 5), (3,), (9, 8)), ((1, 5, 3), (None,), (9, 8)), (1, 5, 3, None, 9, 8)]:
            self.assertIs(shows_candidate(SMALL, value), False, value)

    def test_values_beyond_the_bounds(self):
        facts = facts_by_hand(("a",), ((),), ((-9999,), (9999,), (0,)))
        self.assertIs(shows_candidate(facts, ((-9999,), (9999,), (0,))), True)
        self.assertIs(shows_candidate(facts, ((-10000,), (9999,), (1,))), False)
        self.assertIs(shows_candidate(facts, ((-9999,), (10000,), (-1,))), False)

    def test_any_values(self):
        for value in ANY_VALUES:
            for facts in (ONE, SMALL):
                self.assertIs(shows_candidate(facts, value), False)
        rows = ((0, 1), (1, None), (1, 1))
        facts = facts_by_hand(("a", "b"), ((1,), ()), rows)
        right = {tuple(zip(one, other)) for one in itertools.permutations((0, 1, 1))
                 for other in itertools.permutations((1, 1, None))}
        found = 0
        for value in [rows, *variants(rows, lambda part: ANY_VALUES), *variants(rows, kinds)]:
            wanted = any(is_same(value, candidate) for candidate in right)
            self.assertIs(shows_candidate(facts, value), wanted)
            found += wanted
        self.assertGreater(found, 3)

    def test_twenty_rows_with_one_value_changed(self):
        chance = random.Random(20)
        for cuts in ((), (0,), (-5, 0, 5, 9)):
            rows = tuple((chance.randint(-9, 12), chance.choice([None, 3, 4])) for _ in range(20))
            facts = facts_by_hand(("b", "a"), (cuts, ()), rows)
            self.assertIs(shows_candidate(facts, rows), True)
            self.assertIs(shows_candidate(facts, rows[::-1]), True)
            for value in variants(rows, lambda part: [None, 0, part + 1, part - 1] if isinstance(part, int) else []):
                self.assertIs(shows_candidate(facts, value), facts_by_hand(("b", "a"), (cuts, ()), value) == facts)


class DifferingTest(unittest.TestCase):
    def check(self, question, facts, live, counts):
        """Check the two candidates against the possible counts."""
        found = differing(question, facts, live)
        if len(counts) == 1:
            self.assertIsNone(found)
            return
        self.assertTrue(all_tuples(found))
        self.assertEqual(len(found), 2)
        for rows, count in zip(found, (counts[0], counts[-1])):
            self.assertEqual(facts_by_hand([part[0] for part in facts[1]], [part[1] for part in facts[1]], rows), facts)
            self.assertIs(shows_candidate(facts, rows), True)
            self.assertEqual(met_by(question, facts, rows[:live]), count, (question.string, facts, live))
        self.assertEqual(differing(question, facts, live), found)

    def test_random_pieces_and_questions(self):
        for question, facts in random_cases(21, 900) + random_cases(22, 200, 2, 4, (-1, 0, 1, 3)):
            pairs = outcomes(question, facts)
            for live in range(facts[0] + 1):
                self.check(question, facts, live, model_counts(pairs, live))

    def test_twenty_rows(self):
        chance = random.Random(23)
        for k in range(60):
            names = chance.sample("abcd", 4)
            values = [-9999, 9999, chance.randint(-9999, 9999), 0, 1, None] if k < 20 else [0, 1, 3, 4, 9, None, None]
            cuts = tuple(sorted(chance.sample([-3000, 0, 1, 4, 9999], chance.randint(0, 4))))
            rows = tuple(tuple(chance.choice(values) for _ in names) for _ in range(20))
            facts = facts_by_hand(names, [cuts] * 4, rows)
            a, b = where("a", ((-9999, 0), (9, 9))), where("b", ((1, 5000),), missing=True)
            c, d = where("c", ((0, 0), (2, 4)), missing=True), where("d", ((-9999, -9999), (3, 9999)))
            for question in (a, d, a & b, a | c, a & (b | c & d), a & b | c & d, (a | b) & (c | d), a & b & c & d):
                for live in (20, 17, 3):
                    self.check(question, facts, live, possible_counts(question, facts, live))


class SettlingTest(unittest.TestCase):
    def test_bounds(self):
        for question, facts in random_cases(24, 500):
            pairs = outcomes(question, facts)
            for live in range(facts[0] + 1):
                counts = model_counts(pairs, live)
                least, greatest = counts[0], counts[-1]
                found = settling(question, facts, live)
                self.assertTrue(all_tuples(found))
                self.assertTrue(model_settles(question, facts, live, least, greatest, found))
                for low, high in [(least, greatest), (least - 1, greatest), (least, greatest + 1), (0, live),
                                  (-10 ** 30, 10 ** 30)]:
                    self.assertIs(shows_settled(question, facts, live, low, high, found), True)
                for low, high in [(least + 1, greatest), (least, greatest - 1), (greatest + 1, least - 1),
                                  (greatest + 1, 20), (-5, least - 1), (10 ** 30, -10 ** 30)]:
                    self.assertIs(shows_settled(question, facts, live, low, high, found), False)

    def test_twenty_rows(self):
        chance = random.Random(25)
        for k in range(20):
            values = [-9999, 9999, chance.randint(-9999, 9999), 0, None] if k < 8 else [0, 1, 3, 4, 9, None, None]
            cuts = tuple(sorted(chance.sample([-3000, 0, 1, 4, 9999], chance.randint(0, 4))))
            facts = facts_by_hand("dbca", [cuts] * 4, [[chance.choice(values) for _ in "abcd"] for _ in range(20)])
            question = read_question("(a=-9999..0,9 or c=0,2..4,?) and (b=1..5000,? or d=-9999,3..9999)")
            for live in (20, 14):
                counts = possible_counts(question, facts, live)
                found = settling(question, facts, live)
                self.assertIs(shows_settled(question, facts, live, counts[0], counts[-1], found), True)
                self.assertIs(shows_settled(question, facts, live, counts[0] + 1, counts[-1], found), False)
                self.assertIs(shows_settled(question, facts, live, counts[0], counts[-1] - 1, found), False)


class ShowsSettledTest(unittest.TestCase):
    def shows(self, least, greatest, within, outside, question=FOUR_TO_SIX, facts=ONE, live=3):
        """Return what is shown by evidence of one column with one bucket."""
        found = shows_settled(question, facts, live, least, greatest, (((within, outside),),))
        self.assertIsInstance(found, bool)
        return found

    def test_any_values(self):
        self.assertIs(shows_settled(FOUR_TO_SIX, ONE, 3, 0, 3, ((((START, HUGE), (START, HUGE)),),)), True)
        for value in ANY_VALUES:
            self.assertIs(shows_settled(FOUR_TO_SIX, ONE, 3, 0, 3, value), False)
            self.assertIs(shows_settled(FOUR_TO_SIX & where("b", ()), (3, (*SMALL[1][:1], *ONE[1])), 3, 0, 3, value),
                          False)

    def test_other_kinds_in_each_place(self):
        facts = (3, (("b", (1,), 0, 0, 2, ((1, 0), (2, 3))), ("a", (), 1, 0, 3, ((2, 3),))))
        question = read_question("a=0..1 and b=1..2")
        found = settling(question, facts, 3)
        self.assertIs(shows_settled(question, facts, 3, 0, 3, found), True)
        # The model lays range sets out, so they must not be wide.
        narrow = [value for value in ANY_VALUES if type(value) is not int or abs(value) < 10]
        for value in [*variants(found, kinds), *variants(found, lambda part: narrow)]:
            self.assertIs(shows_settled(question, facts, 3, 0, 3, value), model_settles(question, facts, 3, 0, 3, value))

    def test_wide_range_sets_in_each_place(self):
        question = read_question("a=0,2 and b=1..2")
        facts = (4, (("b", (1,), 0, 0, 2, ((1, 0), (3, 4))), ("a", (), 1, 0, 3, ((3, 4),))))
        found = settling(question, facts, 3)
        for wide in [HUGE, ((-10 ** 6000, 10 ** 6000),), tuple((k, k + 10 ** 9) for k in range(0, 10 ** 12, 10 ** 10))]:
            for n, buckets in enumerate(found):
                for m, pair in enumerate(buckets):
                    for side, part in enumerate(pair):
                        for k in range(len(part)):
                            changed = exchanged(found, (n, m, side, k), wide)
                            # What is too large in between has sums of its own, unless there is nothing to add.
                            wanted = k > 0 and (k == len(part) - 1 or part[1] == ())
                            self.assertIs(shows_settled(question, facts, 3, 0, 3, changed), wanted)

    def test_larger_range_sets(self):
        within, outside = (START, ((4, 6),)), (START, ((0, 3), (7, 10)))
        self.assertTrue(self.shows(1, 1, within, outside))
        # The rest is 5: it must not be among the sums outside, or none could be within.
        for larger in [((0, 4), (6, 10)), ((0, 3), (6, 10)), ((-50, 4), (7, 10), (99, 99)), ((-10 ** 30, 4), (6, 10 ** 30))]:
            self.assertTrue(self.shows(1, 1, within, (START, larger)))
        for larger in [((0, 10),), ((0, 3), (5, 5), (7, 10)), ((-99, 99),), HUGE]:
            self.assertFalse(self.shows(1, 1, within, (START, larger)))
            self.assertTrue(self.shows(0, 1, within, (START, larger)))
        for larger in [((4, 7),), ((0, 10),), ((-3, -3), (4, 6)), HUGE, ((-10 ** 6000, 10 ** 6000),)]:
            self.assertTrue(self.shows(1, 1, (START, larger), outside))
            self.assertFalse(self.shows(1, 1, (START, larger), (START, HUGE)))
            self.assertTrue(self.shows(0, 1, (START, larger), (START, HUGE)))

    def test_smaller_range_sets(self):
        within, outside = (START, ((4, 6),)), (START, ((0, 3), (7, 10)))
        for smaller in [(), ((4, 5),), ((5, 6),), ((4, 4), (6, 6)), ((5, 5),), ((0, 3),)]:
            self.assertFalse(self.shows(0, 3, (START, smaller), outside))
        for smaller in [(), ((0, 3),), ((7, 10),), ((1, 3), (7, 10)), ((0, 2), (7, 10)), ((0, 3), (7, 9)), ((4, 6),)]:
            self.assertFalse(self.shows(0, 3, within, (START, smaller)))

    def test_the_first_range_set_is_that_of_nought(self):
        within, outside = (START, ((4, 6),)), (START, ((0, 3), (7, 10)))
        for first in [(), ((1, 1),), ((0, 1),), ((-1, 0),), ((0, 0), (5, 5)), ((False, False),), [(0, 0)], ((0, 0, 0),),
                      HUGE]:
            self.assertFalse(self.shows(0, 3, (first, HUGE), outside))
            self.assertFalse(self.shows(0, 3, within, (first, HUGE)))

    def test_too_many_and_too_few_range_sets(self):
        within, outside = (START, ((4, 6),)), (START, ((0, 3), (7, 10)))
        for parts in [(), (START,), (*within, HUGE), (START, START, *within), (START, within[1], within[1])]:
            self.assertFalse(self.shows(0, 3, parts, outside))
            self.assertFalse(self.shows(0, 3, within, parts))
        pair = within, outside
        for value in [(), ((),), (pair,), (((pair,),),), ((pair, pair),), ((pair,), (pair,)), ((within,),), (((),),),
                      (((within, outside, outside),),), [(pair,)], ([pair],), ([[within, outside]],)]:
            self.assertIs(shows_settled(FOUR_TO_SIX, ONE, 3, 0, 3, value), False, value)

    def test_each_range_set_contains_the_sums_of_the_one_before_it(self):
        # Of four values two are free, with the sum 2; within are 0 and 1, outside is 2.
        facts = (4, (("a", (), 0, 0, 2, ((4, 4),)),))
        question = where("a", ((0, 1),))
        outside = START, ((2, 2),), ((4, 4),)
        self.assertTrue(self.shows(2, 3, (START, ((0, 1),), ((0, 2),)), outside, question, facts, 4))
        for within in [(START, ((0, 2),), ((0, 2),)), (START, ((-1, 1),), ((0, 2),)), (START, ((0, 1), (9, 9)), ((0, 2),)),
                       (START, ((0, 1),), ((0, 1),)), (START, ((0, 1),), ()), (START, (), ((0, 2),))]:
            self.assertFalse(self.shows(0, 4, within, outside, question, facts, 4))
        for within in [(START, ((0, 2),), ((0, 3),)), (START, ((-1, 1),), ((-1, 2),)),
                       (START, ((0, 1), (9, 9)), ((0, 2), (9, 10)))]:
            self.assertTrue(self.shows(2, 3, within, outside, question, facts, 4))
            self.assertFalse(self.shows(3, 3, within, outside, question, facts, 4))
            self.assertFalse(self.shows(2, 2, within, outside, question, facts, 4))

    def test_empty_buckets_and_known_values(self):
        empty = (START,), (START,)
        facts = (3, (("a", (5, 7), 1, 0, 9, ((1, 0), (0, 0), (1, 9))),))
        question = where("a", ((0, 0),), missing=True)
        self.assertIs(shows_settled(question, facts, 3, 2, 2, ((empty, empty, empty),)), True)
        self.assertIs(shows_settled(question, facts, 2, 1, 2, ((empty, empty, empty),)), True)
        self.assertIs(shows_settled(question, facts, 2, 2, 2, ((empty, empty, empty),)), False)
        for value in [((empty, empty),), ((empty,) * 4,), ((empty, ((), ()), empty),),
                      ((empty, ((START, ()), (START, ())), empty),), ((empty, (((0, 1),), START), empty),)]:
            self.assertIs(shows_settled(question, facts, 3, 0, 3, value), False, value)
        facts = (2, (("a", (), 2, None, None, ((0, 0),)),))
        self.assertIs(shows_settled(question, facts, 2, 2, 2, ((empty,),)), True)
        self.assertIs(shows_settled(-question, facts, 2, 0, 0, ((empty,),)), True)

    def test_columns_stand_ascending(self):
        facts = (3, (("b", (), 0, 0, 2, ((3, 4),)), ("a", (), 0, 0, 3, ((3, 4),))))
        question = read_question("a=1 or b=2")
        for_a, for_b = settling(where("a", ((1, 1),)), facts, 3), settling(where("b", ((2, 2),)), facts, 3)
        self.assertIs(shows_settled(question, facts, 3, 2, 3, (*for_a, *for_b)), True)
        self.assertIs(shows_settled(question, facts, 3, 0, 3, (*for_b, *for_a)), False)
        self.assertIs(shows_settled(question, facts, 3, 0, 3, for_a), False)
        self.assertIs(shows_settled(question, facts, 3, 0, 3, (*for_a, *for_b, *for_b)), False)

    def test_changed_evidence(self):
        accepted = refused = 0
        for question, facts in random_cases(26, 60, 2, 4, (0, 1, 2, 3)) + random_cases(27, 30, 3, 3):
            counts = possible_counts(question, facts, facts[0])
            found = settling(question, facts, facts[0])
            for value in variants(found, other_range_sets):
                for least, greatest in [(counts[0], counts[-1]), (0, facts[0])]:
                    wanted = model_settles(question, facts, facts[0], least, greatest, value)
                    self.assertIs(shows_settled(question, facts, facts[0], least, greatest, value), wanted,
                                  (question.string, facts, value))
                    accepted, refused = accepted + wanted, refused + (not wanted)
        self.assertGreater(accepted, 1000)
        self.assertGreater(refused, 3000)

    def test_evidence_changed_several_times(self):
        chance = random.Random(28)
        accepted = refused = 0
        for question, facts in random_cases(29, 150, 2, 4, (0, 1, 2, 3)):
            live = chance.randint(0, facts[0])
            value = settling(question, facts, live)
            counts = possible_counts(question, facts, live)
            for _ in range(8):
                for changed in (value, chance.choice(variants(value, other_range_sets))):
                    for least, greatest in [(counts[0], counts[-1]), (0, live)]:
                        wanted = model_settles(question, facts, live, least, greatest, changed)
                        self.assertIs(shows_settled(question, facts, live, least, greatest, changed), wanted)
                        accepted, refused = accepted + wanted, refused + (not wanted)
                value = grown(chance, value)
        self.assertGreater(accepted, 500)
        self.assertGreater(refused, 500)

    def test_arguments_are_left_as_they_are(self):
        pair = [[list(START), [[4, 6]]], [list(START), [[0, 10]]]]
        value = [[pair]]
        before = repr(value)
        self.assertIs(shows_settled(FOUR_TO_SIX, ONE, 3, 0, 3, value), False)
        self.assertEqual(repr(value), before)


def exchanged(value, places, other):
    """Return a nested tuple with another value at a place, which is given by an index for each level."""
    if not places:
        return other
    first = places[0]
    return (*value[:first], exchanged(value[first], places[1:], other), *value[first + 1:])


def grown(chance, value):
    """Return evidence in which some of the last range sets of the buckets are larger, so that it remains evidence."""
    return tuple(tuple(tuple((*part[:-1], grown_ranges(chance, part[-1])) if len(part) > 1 else part for part in pair)
                       for pair in buckets) for buckets in value)


def grown_ranges(chance, ranges):
    """Return a range set with no, one or more integers more."""
    numbers = {number for low, high in ranges for number in range(low, high + 1)}
    return tuple(runs(numbers | {chance.randint(-3, 12) for _ in range(chance.randint(0, 3))}))


if __name__ == "__main__":
    unittest.main()
