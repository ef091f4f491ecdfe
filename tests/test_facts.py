import inspect
import itertools
import random
import unittest

from piecefacts import facts
from piecefacts.facts import facts_of, is_facts
from tests.any_values import ANY_VALUES, nested
from tests.examples import check_examples
from tests.piece_model import all_tuples, are_facts, column_by_hand, facts_by_hand, variants
from tests.small_pieces import CUTS, random_piece

ONE = (3, (("a", (), 0, 0, 10, ((3, 15),)),))
TWO = (3, (("b", (5,), 0, 1, 9, ((2, 4), (1, 9))), ("a", (), 1, 5, 5, ((2, 10),))))


def one_column(missing, least, greatest, *pairs, cuts=(), column="a"):
    """Return facts with one column."""
    return missing + sum(number for number, _ in pairs), ((column, cuts, missing, least, greatest, pairs),)


class ExamplesTest(unittest.TestCase):
    def test_examples_of_section_7(self):
        check_examples(self, """
>>> from piecefacts.facts import facts_of, is_facts
>>> facts_of(('a', 'b'), ((5,), ()), ((1, 5), (3, 5), (9, None)))
(3, (('a', (5,), 0, 1, 9, ((2, 4), (1, 9))), ('b', (), 1, 5, 5, ((2, 10),))))
>>> [is_facts((3, (('a', (), 0, 0, 10, ((3, 15),)),))), is_facts((2, (('a', (), 0, 0, 10, ((2, 15),)),))), is_facts((3, (('a', (5,), 0, 6, 9, ((1, 6), (2, 15))),)))]
[True, False, False]
""")

    def test_functions_are_defined_in_facts_with_these_arguments(self):
        for name, arguments in [("facts_of", ["columns", "cuts", "rows"]), ("is_facts", ["value"])]:
            function = getattr(facts, name)
            self.assertEqual(function.__module__, "piecefacts.facts")
            self.assertEqual(list(inspect.signature(function).parameters), arguments)
        self.assertEqual(facts_of(rows=((1,),), cuts=((),), columns=("a",)), (1, (("a", (), 0, 1, 1, ((1, 1),)),)))
        self.assertIs(is_facts(value=ONE), True)


class FactsOfTest(unittest.TestCase):
    def test_buckets(self):
        rows = ((-9999,), (9999,), (-1,), (0,), (None,), (5,), (5,), (-9998,), (4,), (9998,))
        for cuts, pairs in [
            ((), ((9, 13),)),
            ((0,), ((3, -19998), (6, 20011))),
            ((-9998,), ((1, -9999), (8, 10012))),
            ((9999,), ((8, -9986), (1, 9999))),
            ((-9998, 9999), ((1, -9999), (7, 13), (1, 9999))),
            ((4, 5), ((4, -19998), (1, 4), (4, 20007))),
            ((-500, -400, -300, -200), ((2, -19997), (0, 0), (0, 0), (0, 0), (7, 20010))),
        ]:
            self.assertEqual(facts_of(("a",), (cuts,), rows), (10, (("a", cuts, 1, -9999, 9999, pairs),)))

    def test_missing_values(self):
        self.assertEqual(facts_of(("a",), ((3,),), ((None,), (None,))), (2, (("a", (3,), 2, None, None, ((0, 0), (0, 0))),)))
        self.assertEqual(facts_of(("a",), ((),), ((None,), (0,))), (2, (("a", (), 1, 0, 0, ((1, 0),)),)))

    def test_columns_keep_their_sequence_and_their_cut_points(self):
        found = facts_of(("d", "a", "c", "b"), ((1,), (), (2, 3), (4,)), ((1, 2, 3, 4), (5, 6, None, 8)))
        self.assertEqual(found, (2, (("d", (1,), 0, 1, 5, ((0, 0), (2, 6))), ("a", (), 0, 2, 6, ((2, 8),)),
                                     ("c", (2, 3), 1, 3, 3, ((0, 0), (0, 0), (1, 3))),
                                     ("b", (4,), 0, 4, 8, ((0, 0), (2, 12))))))

    def test_random_rows(self):
        chance = random.Random(7)
        for _ in range(400):
            columns = tuple(chance.sample(["a", "b", "zz", "abcdefgh"], chance.randint(1, 4)))
            cuts = tuple(tuple(sorted(chance.sample(range(-9998, 10000), chance.randint(0, 4)))) for _ in columns)
            points = [-9999, 9999, 0, None, *[point + by for some in cuts for point in some for by in (-1, 0)]]
            rows = tuple(tuple(chance.choice(points) for _ in columns) for _ in range(chance.randint(1, 20)))
            found = facts_of(columns, cuts, rows)
            self.assertEqual(found, facts_by_hand(columns, cuts, rows))
            self.assertTrue(all_tuples(found))
            self.assertIs(is_facts(found), True)
            shuffled = tuple(chance.sample(rows, len(rows)))
            self.assertEqual(facts_of(columns, cuts, shuffled), found)


class IsFactsTest(unittest.TestCase):
    def assert_facts(self, value):
        self.assertIs(is_facts(value), True, value)

    def assert_none(self, value):
        self.assertIs(is_facts(value), False, value)

    def test_bounds(self):
        column = ("a", (), 0, 0, 0, ((1, 0),))
        self.assert_facts((1, (column,)))
        self.assert_facts((20, (("a", (), 20, None, None, ((0, 0),)),)))
        self.assert_facts((20, (("a", (), 0, -9999, -9999, ((20, -199980),)),)))
        self.assert_facts((1, tuple((name, *column[1:]) for name in ("a", "c", "b", "abcdefgh"))))
        self.assert_none((0, (("a", (), 0, None, None, ((0, 0),)),)))
        self.assert_none((21, (("a", (), 21, None, None, ((0, 0),)),)))
        self.assert_none((21, (("a", (), 0, 0, 0, ((21, 0),)),)))
        self.assert_none((1, ()))
        self.assert_none((1, tuple((name, *column[1:]) for name in ("a", "b", "c", "d", "e"))))
        self.assert_none((1, (column, column)))
        self.assert_none((1, (column, ("b", *column[1:]), ("a", (), 1, None, None, ((0, 0),)))))
        self.assert_none((2, (column,)))
        for name in ("", "and", "or", "A", "abcdefghi", "a1", "a ", "a\n", "\u00e4", 1, None, True, ("a",), ["a"]):
            self.assert_none((1, ((name, *column[1:]),)))

    def test_values_within_the_bounds(self):
        self.assert_facts(one_column(0, -9999, 9999, (2, 0)))
        self.assert_facts(one_column(0, 9999, 9999, (1, 9999)))
        self.assert_none(one_column(0, -10000, 0, (2, -10000)))
        self.assert_none(one_column(0, 0, 10000, (2, 10000)))
        self.assert_none(one_column(0, 10000, 10000, (1, 10000)))
        self.assert_none(one_column(0, 5, 4, (2, 9)))
        self.assert_none(one_column(0, None, 4, (1, 4)))
        self.assert_none(one_column(0, 4, None, (1, 4)))
        self.assert_none(one_column(0, None, None, (1, 4)))
        self.assert_none(one_column(1, None, None, (1, 0)))
        self.assert_none(one_column(1, 0, 0, (0, 0)))
        self.assert_none(one_column(1, None, 0, (0, 0)))
        self.assert_none(one_column(1, 0, None, (0, 0)))

    def test_sums_of_one_bucket(self):
        for least, greatest in [(0, 0), (3, 3), (-2, -1), (0, 10), (-9999, 9999), (9998, 9999), (-9999, -9999)]:
            for number in (1, 2, 3, 4, 19, 20):
                free = number - len({least, greatest})
                low, high = [sum({least, greatest}) + free * end for end in (least, greatest)]
                totals = [low - 1, low, (low + high) // 2, high, high + 1, low - 10 ** 9, high + 10 ** 9, 10 ** 6000]
                for total in totals:
                    wanted = free >= 0 and low <= total <= high
                    self.assertIs(is_facts(one_column(0, least, greatest, (number, total))), wanted)
                    with_missing = one_column(2, least, greatest, (number, total))
                    self.assertIs(is_facts(with_missing), wanted and number < 19)

    def test_empty_buckets_have_no_sum(self):
        for total in (0, 1, -1, 5):
            self.assertIs(is_facts(one_column(1, None, None, (0, total))), total == 0)
            self.assertIs(is_facts(one_column(0, 0, 1, (0, total), (2, 1), cuts=(-3,))), total == 0)
            self.assertIs(is_facts(one_column(0, 0, 1, (2, 1), (0, total), cuts=(3,))), total == 0)
            self.assertIs(is_facts(one_column(0, 0, 9, (1, 0), (0, total), (1, 9), cuts=(3, 6))), total == 0)

    def test_the_least_and_the_greatest_value_stand_at_the_ends(self):
        self.assert_facts(one_column(0, 0, 9, (1, 0), (2, 14), cuts=(5,)))
        self.assert_facts(one_column(0, 5, 9, (0, 0), (2, 14), cuts=(5,)))
        self.assert_facts(one_column(0, 0, 4, (2, 4), (0, 0), cuts=(5,)))
        self.assert_none(one_column(0, 5, 9, (1, 4), (2, 14), cuts=(5,)))
        self.assert_none(one_column(0, 5, 9, (1, 5), (1, 9), cuts=(5,)))
        self.assert_none(one_column(0, 0, 4, (2, 4), (1, 5), cuts=(5,)))
        self.assert_none(one_column(0, 0, 4, (1, 0), (1, 4), cuts=(5,)))
        self.assert_none(one_column(0, 0, 9, (2, 9), (0, 0), cuts=(5,)))
        self.assert_none(one_column(0, 0, 9, (0, 0), (2, 9), cuts=(5,)))
        self.assert_none(one_column(0, 4, 4, (1, 4), (1, 4), cuts=(4,)))
        self.assert_facts(one_column(0, 4, 4, (0, 0), (2, 8), cuts=(4,)))
        self.assert_none(one_column(0, 4, 4, (2, 8), (0, 0), cuts=(4,)))

    def test_sums_of_buckets(self):
        for totals in itertools.product(range(-3, 8), range(1, 14), range(9, 24)):
            pairs = tuple(zip((2, 2, 2), totals))
            wanted = -2 <= totals[0] <= 1 and 6 <= totals[1] <= 8 and 14 <= totals[2] <= 18
            self.assertIs(is_facts(one_column(0, -1, 9, *pairs, cuts=(3, 5))), wanted)

    def test_all_small_facts_of_one_bucket(self):
        domain = [None, -1, 0, 1, 2]
        for size in (1, 2, 3):
            right = {repr((size, (column_by_hand("a", (), list(values)),)))
                     for values in itertools.product(domain, repeat=size)}
            for missing, least, greatest, number in itertools.product(range(size + 1), domain, domain, range(size + 1)):
                for total in range(-4, 8):
                    value = (size, (("a", (), missing, least, greatest, ((number, total),)),))
                    self.assertIs(is_facts(value), repr(value) in right, value)

    def test_all_small_facts_of_several_buckets(self):
        domain = [None, -1, 0, 1, 2]
        for cuts, size in [((0,), 3), ((1,), 3), ((2,), 2), ((0, 2), 2), ((1, 2), 2), ((-5, 1), 2)]:
            right = {repr((size, (column_by_hand("a", cuts, list(values)),)))
                     for values in itertools.product(domain, repeat=size)}
            found = 0
            for numbers in itertools.product(range(size + 1), repeat=len(cuts) + 1):
                if sum(numbers) > size:
                    continue
                for totals in itertools.product(*[range(-number - 1, 2 * number + 2) for number in numbers]):
                    for least, greatest in itertools.product(domain, domain):
                        pairs = tuple(zip(numbers, totals))
                        value = (size, (("a", cuts, size - sum(numbers), least, greatest, pairs),))
                        self.assertIs(is_facts(value), repr(value) in right, value)
                        found += is_facts(value)
            self.assertEqual(found, len(right))

    def test_cut_points(self):
        def with_cuts(cuts):
            return (1, (("a", cuts, 1, None, None, ((0, 0),) * (len(cuts) + 1)),))
        for cuts in [(), (-9998,), (9999,), (-9998, 9999), (1, 2, 3, 4), (-1, 0, 1)]:
            self.assert_facts(with_cuts(cuts))
            self.assert_none(with_cuts(list(cuts)))
            column = with_cuts(cuts)[1][0]
            self.assert_none((1, ((*column[:5], (*column[5], (0, 0))),)))
            self.assert_none((1, ((*column[:5], column[5][1:]),)))
        for cuts in [(-9999,), (10000,), (1, 1), (2, 1), (1, 2, 2), (1, 3, 2), (1, 2, 3, 4, 5), (True,), (None,), ("1",),
                     (0, True), (1, (2,)), (-9999, 0), (0, 10000), ([1],), ((),)]:
            self.assert_none(with_cuts(cuts))

    def test_any_values(self):
        for value in ANY_VALUES:
            self.assert_none(value)
        for facts_value in (ONE, TWO):
            for value in variants(facts_value, lambda part: ANY_VALUES):
                self.assertIs(is_facts(value), are_facts(value), value)

    def test_other_kinds_in_each_place(self):
        def kinds(part):
            found = [nested(part, 1), str(part), (part,)]
            found += [list(part), dict(enumerate(part)), (*part, 0), part[1:], part[:-1], part[::-1], (*part, *part)
                      ] if isinstance(part, tuple) else []
            return found + ([bool(part)] if part in (0, 1) else [])
        for facts_value in (ONE, TWO, (1, (("a", (0, 1), 0, 1, 1, ((0, 0), (0, 0), (1, 1))),))):
            right = [value for value in variants(facts_value, kinds) if is_facts(value)]
            self.assertEqual([value for value in right if not are_facts(value)], [])
            self.assertEqual([value for value in variants(facts_value, kinds) if are_facts(value)], right)

    def test_facts_with_one_number_changed(self):
        def numbers(part):
            if part is None:
                return [0, -1, 5]
            return [part + by for by in (-100, -2, -1, 1, 2, 100)] + [None] if isinstance(part, int) else []
        chance = random.Random(8)
        right = wrong = 0
        for size in [1, 2, 3, 5, 8, 20] * 5:
            piece = random_piece(chance, list("abc")[:chance.randint(1, 3)], size, [-2, -1, 0, 1, 2, 3, 5])
            self.assertTrue(are_facts(piece))
            for value in variants(piece, numbers):
                wanted = are_facts(value)
                self.assertIs(is_facts(value), wanted, value)
                right, wrong = right + wanted, wrong + (not wanted)
        self.assertGreater(right, 300)
        self.assertGreater(wrong, 3000)

    def test_facts_with_two_numbers_changed(self):
        chance = random.Random(9)
        right = 0
        for _ in range(3000):
            column = list(random_piece(chance, ["a"], 6, [-1, 0, 1, 2, 3])[1][0])
            for k in chance.sample([2, 3, 4, 5], 2):
                if k == 5:
                    pairs = [list(pair) for pair in column[5]]
                    chance.choice(pairs)[chance.randint(0, 1)] += chance.choice([-1, 1])
                    column[5] = tuple(map(tuple, pairs))
                elif column[k] is not None:
                    column[k] += chance.choice([-1, 1])
            value = (6 + chance.choice([0, 0, 1, -1]), (tuple(column),))
            right += are_facts(value)
            self.assertIs(is_facts(value), are_facts(value), value)
        self.assertGreater(right, 200)

    def test_all_cut_points_of_small_pieces(self):
        for cuts in CUTS:
            for values in itertools.product([None, -1, 0, 2, 3], repeat=3):
                self.assert_facts((3, (column_by_hand("a", cuts, list(values)),)))


if __name__ == "__main__":
    unittest.main()
