import itertools
import random
import unittest

from piecefacts import ranges
from piecefacts.ranges import added, both, completed, either, holds, is_ranges, sums, sums_up_to, without
from tests.any_values import ANY_VALUES
from tests.examples import check_examples
from tests.string_model import runs

FAR = 10 ** 40
SMALL = [set(chosen) for many in range(7) for chosen in itertools.combinations(range(6), many)]


def range_set(numbers, by=0):
    """Return the range set of a set of integers, moved."""
    return tuple((low + by, high + by) for low, high in runs(numbers))


class ExamplesTest(unittest.TestCase):
    def test_examples_of_section_4(self):
        check_examples(self, """
>>> from piecefacts.ranges import added, either, sums, without
>>> [either(((1, 2), (9, 9)), ((3, 3),)), without(((0, 9),), ((3, 4), (9, 12))), added(((0, 1),), ((10, 10), (20, 20)))]
[((1, 3), (9, 9)), ((0, 2), (5, 8)), ((10, 11), (20, 21))]
>>> [sums(((0, 0), (10, 10)), 3), sums(((0, 1), (3, 3)), 2), sums((), 0), sums((), 1)]
[((0, 0), (10, 10), (20, 20), (30, 30)), ((0, 4), (6, 6)), ((0, 0),), ()]
""")

    def test_functions_are_defined_in_ranges(self):
        for name in ("is_ranges", "holds", "both", "either", "without", "added", "sums"):
            self.assertEqual(getattr(ranges, name).__module__, "piecefacts.ranges")

    def test_arguments_by_name(self):
        one, other = ((0, 5),), ((4, 9),)
        self.assertIs(is_ranges(value=one), True)
        self.assertIs(holds(ranges=one, number=5), True)
        self.assertEqual(both(other=other, one=one), ((4, 5),))
        self.assertEqual(either(other=other, one=one), ((0, 9),))
        self.assertEqual(without(other=other, one=one), ((0, 3),))
        self.assertEqual(added(other=other, one=one), ((4, 14),))
        self.assertEqual(sums(many=2, ranges=one), ((0, 10),))


class IsRangesTest(unittest.TestCase):
    def test_range_sets(self):
        for value in [(), ((0, 0),), ((-3, 5),), ((0, 0), (2, 2)), ((-9, -7), (-5, 0), (2, 9)),
                      ((-FAR, FAR),), ((FAR, FAR), (FAR + 2, FAR + 2)), tuple((k, k) for k in range(0, 2000, 2))]:
            self.assertIs(is_ranges(value), True, value)

    def test_what_is_no_range_set(self):
        for value in [((1, 0),), ((0, 1), (2, 3)), ((0, 1), (1, 3)), ((0, 9), (3, 4)), ((5, 6), (1, 2)), (1, 2), 5,
                      [(1, 2)], ([1, 2],), ((1, 2), [4, 5]), ((1,),), ((1, 2, 3),), ((),), ((True, 2),), ((0, True),),
                      ((False, False),), ((None, 2),), ((1, None),), (("1", "2"),), ((1, "2"),), "", "ab", ("ab",),
                      None, True, {}, {(1, 2): 3}, ((1, 2), None), ((1, 2), ((4, 5),)), (((1, 2),),), ((1, 2), ()),
                      ((0, 0), (1, 1)), ((0, 0), (0, 0)), ((FAR, FAR), (FAR + 1, FAR + 1)), ((1, [2]),)]:
            self.assertIs(is_ranges(value), False, value)

    def test_any_values(self):
        good = [value for value in ANY_VALUES if is_ranges(value)]
        self.assertEqual(good, [(), ((1, 2),), ((1, 2), (4, 5))])


class SetsTest(unittest.TestCase):
    def test_holds(self):
        for numbers in SMALL:
            for by in (0, -3, FAR, -FAR):
                for number in range(-2, 9):
                    self.assertIs(holds(range_set(numbers, by), number + by), number in numbers)

    def test_all_small_sets(self):
        for one, other in itertools.product(SMALL, SMALL):
            first, second = range_set(one), range_set(other)
            self.assertEqual(both(first, second), range_set(one & other))
            self.assertEqual(either(first, second), range_set(one | other))
            self.assertEqual(without(first, second), range_set(one - other))
            self.assertEqual(added(first, second), range_set({a + b for a in one for b in other}))

    def test_sets_far_from_nought(self):
        for one, other in itertools.product(SMALL[::5], SMALL[::3]):
            for by in (FAR, -FAR, -4):
                first, second = range_set(one, by), range_set(other, by)
                self.assertEqual(both(first, second), range_set(one & other, by))
                self.assertEqual(either(first, second), range_set(one | other, by))
                self.assertEqual(without(first, second), range_set(one - other, by))
                self.assertEqual(added(first, second), range_set({a + b for a in one for b in other}, 2 * by))

    def test_wide_sets(self):
        wide = ((-FAR, -5), (-3, FAR))
        self.assertEqual(both(wide, ((-6, -2),)), ((-6, -5), (-3, -2)))
        self.assertEqual(either(wide, ((-4, -4),)), ((-FAR, FAR),))
        self.assertEqual(without(wide, ((-FAR, 0), (2, 2))), ((1, 1), (3, FAR)))
        self.assertEqual(without(((0, 9),), wide), ())
        self.assertEqual(added(wide, ((0, 1),)), ((-FAR, FAR + 1),))
        self.assertEqual(added(((-FAR, -FAR), (FAR, FAR)), ((0, 0), (2, 3))),
                         ((-FAR, -FAR), (-FAR + 2, -FAR + 3), (FAR, FAR), (FAR + 2, FAR + 3)))

    def test_empty_sets(self):
        some = ((1, 2), (5, 5))
        self.assertEqual([both((), some), both(some, ()), both((), ())], [(), (), ()])
        self.assertEqual([either((), some), either(some, ()), either((), ())], [some, some, ()])
        self.assertEqual([without((), some), without(some, ()), without((), ())], [(), some, ()])
        self.assertEqual([added((), some), added(some, ()), added((), ())], [(), (), ()])
        self.assertIs(holds((), 0), False)

    def test_sets_that_touch_and_lie_within_one_another(self):
        self.assertEqual(either(((0, 4),), ((5, 9),)), ((0, 9),))
        self.assertEqual(either(((0, 9),), ((3, 4),)), ((0, 9),))
        self.assertEqual(either(((0, 1), (4, 5), (8, 9)), ((2, 3), (6, 7))), ((0, 9),))
        self.assertEqual(either(((0, 3), (7, 9)), ((2, 8),)), ((0, 9),))
        self.assertEqual(both(((0, 4),), ((5, 9),)), ())
        self.assertEqual(both(((0, 9),), ((3, 4), (6, 6))), ((3, 4), (6, 6)))
        self.assertEqual(without(((0, 9),), ((4, 4),)), ((0, 3), (5, 9)))
        self.assertEqual(without(((3, 4), (6, 6)), ((0, 9),)), ())
        self.assertEqual(without(((0, 9),), ((-5, 0), (9, 20))), ((1, 8),))


class SumsTest(unittest.TestCase):
    def test_sums_of_few(self):
        for numbers in SMALL[::3]:
            wanted = {0}
            for many in range(5):
                self.assertEqual(sums(range_set(numbers), many), range_set(wanted))
                self.assertEqual(sums(range_set(numbers, -FAR), many), range_set(wanted, -FAR * many))
                wanted = {a + b for a in wanted for b in numbers}

    def test_sums_of_none_one_and_twenty(self):
        for one in [(), ((3, 3),), ((-9999, 9999),), ((0, 1), (7, 9)), ((-9999, -9999), (0, 0), (9999, 9999))]:
            self.assertEqual(sums(one, 0), ((0, 0),))
            self.assertEqual(sums(one, 1), one)
        self.assertEqual(sums((), 20), ())
        self.assertEqual(sums(((3, 3),), 20), ((60, 60),))
        self.assertEqual(sums(((-9999, 9999),), 20), ((-199980, 199980),))
        self.assertEqual(sums(((-9999, -9999), (9999, 9999)), 20),
                         tuple((k * 9999, k * 9999) for k in range(-20, 21, 2)))
        self.assertEqual(sums(((-FAR, -FAR), (FAR, FAR)), 20), tuple((k * FAR, k * FAR) for k in range(-20, 21, 2)))
        self.assertEqual(sums(((0, 6), (100, 100)), 2), ((0, 12), (100, 106), (200, 200)))

    def test_twenty_of_four_pairs(self):
        pairs = ((-9999, -9990), (-17, -17), (4, 5), (9001, 9999))
        wanted = set()
        for counts in itertools.product(range(21), repeat=3):
            last = 20 - sum(counts)
            if last >= 0:
                shares = list(zip((*counts, last), pairs))
                wanted.add((sum(many * low for many, (low, _) in shares), sum(many * high for many, (_, high) in shares)))
        found = sums(pairs, 20)
        self.assertIs(is_ranges(found), True)
        merged = []
        for low, high in sorted(wanted):
            if merged and low <= merged[-1][1] + 1:
                merged[-1][1] = max(merged[-1][1], high)
            else:
                merged.append([low, high])
        self.assertEqual(found, tuple((low, high) for low, high in merged))

    def test_sums_of_ever_more(self):
        for numbers in SMALL[::5]:
            one = range_set(numbers, -2)
            self.assertEqual(sums_up_to(one, 3), tuple(sums(one, many) for many in range(4)))
            self.assertEqual(sums_up_to(one, 0), (((0, 0),),))

    def test_what_is_completed_to_a_total(self):
        for one, other in itertools.product(SMALL[::3], SMALL[::4]):
            for total in range(-1, 12):
                wanted = {number for number in one if total - number in other}
                self.assertEqual(completed(range_set(one), range_set(other), total), range_set(wanted))
                self.assertEqual(completed(range_set(one, FAR), range_set(other, -3), total + FAR - 3),
                                 range_set(wanted, FAR))

    def test_crowded_sums(self):
        chance = random.Random(4)
        for top, many in [(40, 10), (90, 30), (300, 100), (900, 200), (700, 500)]:
            for _ in range(8):
                one = set(chance.sample(range(top), many))
                other = set(chance.sample(range(top), chance.randint(1, many)))
                by = chance.choice([0, -top, FAR])
                wanted = range_set({a + b for a in one for b in other}, 2 * by)
                self.assertEqual(added(range_set(one, by), range_set(other, by)), wanted)
                self.assertEqual(added(range_set(other, by), range_set(one, by)), wanted)

    def test_sums_of_thousands_of_pairs(self):
        odd = tuple((k, k) for k in range(-9999, 10000, 2))
        self.assertEqual(sums(odd, 3), tuple((k, k) for k in range(-29997, 29998, 2)))
        self.assertEqual(sums((*odd[:-1], (9999, 10000)), 2),
                         (*[(k, k) for k in range(-19998, 0, 2)], (0, 20000)))


if __name__ == "__main__":
    unittest.main()
