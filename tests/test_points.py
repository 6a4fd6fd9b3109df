import unittest

from crossline.changes import moved
from crossline.errors import NoPoint
from crossline.points import is_point
from samples import LONG_A, LONG_B, NO_POINTS, STILL, pairs, point_by_words


class IsPoint(unittest.TestCase):
    """Promise [2]."""

    def test_ordinary_points(self):
        for point in [(0, 1), (1, 1), (-1, 1), (3, 4), (-3, 4), (7, 1), (1, 9)]:
            with self.subTest(point=point):
                self.assertIs(is_point(point), True)

    def test_the_far_point(self):
        self.assertIs(is_point((1, 0)), True)

    def test_a_bottom_of_nought_is_no_other_point(self):
        for pair in [(0, 0), (-1, 0), (2, 0), (-2, 0), (LONG_A, 0)]:
            with self.subTest(pair=pair):
                self.assertIs(is_point(pair), False)

    def test_not_in_lowest_terms(self):
        for pair in [(0, 2), (2, 2), (2, 4), (-6, 9), (10, 5)]:
            with self.subTest(pair=pair):
                self.assertIs(is_point(pair), False)

    def test_a_bottom_below_nought(self):
        for pair in [(0, -1), (1, -1), (-1, -1), (3, -4), (-2, -4)]:
            with self.subTest(pair=pair):
                self.assertIs(is_point(pair), False)

    def test_every_small_pair_as_the_words_say(self):
        for pair in pairs(12):
            with self.subTest(pair=pair):
                self.assertIs(is_point(pair), point_by_words(pair))

    def test_numbers_of_thirty_figures(self):
        self.assertIs(is_point((LONG_A, LONG_A + 1)), True)
        self.assertIs(is_point((-LONG_A, LONG_A + 1)), True)
        self.assertIs(is_point((LONG_A, LONG_A)), False)
        self.assertIs(is_point((3 * (LONG_B // 9), 3)), False)
        self.assertIs(is_point((LONG_A, -LONG_A - 1)), False)

    def test_what_is_no_point_is_refused_elsewhere(self):
        for pair in NO_POINTS:
            with self.subTest(pair=pair):
                with self.assertRaises(NoPoint):
                    moved(STILL, pair)


if __name__ == "__main__":
    unittest.main()
