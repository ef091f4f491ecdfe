import unittest

from piecefacts.buckets import buckets_of, is_cuts, place_of
from tests.any_values import ANY_VALUES


def told(column):
    """Return what the buckets of the facts of a column tell."""
    return [(bucket.span, bucket.known, bucket.many, bucket.rest) for bucket in buckets_of(column)]


class BucketsTest(unittest.TestCase):
    def test_cut_points(self):
        for cuts in [(), (-9998,), (9999,), (-9998, 9999), (1, 2, 3, 4), (-3, 0)]:
            self.assertIs(is_cuts(cuts), True)
        for cuts in [(-9999,), (10000,), (1, 1), (2, 1), (1, 2, 3, 4, 5), (1, 3, 2), (True,), (0, True), (None,), [1], (1, "2")]:
            self.assertIs(is_cuts(cuts), False)
        self.assertEqual([value for value in ANY_VALUES if is_cuts(value)], [(), (1,), (1, 2)])

    def test_places(self):
        cuts = (-9998, 0, 9999)
        for value, place in [(-9999, 0), (-9998, 1), (-1, 1), (0, 2), (9998, 2), (9999, 3)]:
            self.assertEqual(place_of(cuts, value), place)
            self.assertEqual(place_of((), value), 0)

    def test_spans_known_values_and_what_is_left(self):
        self.assertEqual(told(("a", (), 0, 1, 9, ((3, 12),))), [(((1, 9),), [1, 9], 1, 2)])
        self.assertEqual(told(("a", (), 2, 4, 4, ((3, 12),))), [(((4, 4),), [4], 2, 8)])
        self.assertEqual(told(("a", (3, 6), 0, 1, 9, ((2, 3), (2, 9), (1, 9)))),
                         [(((1, 2),), [1], 1, 2), (((3, 5),), [], 2, 9), (((6, 9),), [9], 0, 0)])

    def test_empty_buckets(self):
        self.assertEqual(told(("a", (), 3, None, None, ((0, 0),))), [((), [], 0, 0)])
        self.assertEqual(told(("a", (3, 6), 0, 1, 9, ((1, 1), (0, 0), (1, 9)))),
                         [(((1, 2),), [1], 0, 0), ((), [], 0, 0), (((6, 9),), [9], 0, 0)])
        self.assertEqual(told(("a", (10,), 0, 1, 1, ((2, 2), (0, 0)))), [(((1, 1),), [1], 1, 1), ((), [], 0, 0)])


if __name__ == "__main__":
    unittest.main()
