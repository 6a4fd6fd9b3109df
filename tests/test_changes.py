import unittest

from crossline.changes import after, back, is_change, moved, power
from crossline.errors import NoChange, NoPoint, NoTimes
from samples import (
    CHANGES,
    FAR,
    FEW_CHANGES,
    LONG_A,
    LONG_B,
    LONG_C,
    LONG_D,
    NO_CHANGES,
    NO_POINTS,
    POINTS,
    STILL,
    change_by_words,
    fours,
    led,
)

LONG_CHANGE = (LONG_A, LONG_B, LONG_C, LONG_D)


class IsChange(unittest.TestCase):
    """Promise [3]."""

    def test_ordinary_changes(self):
        for change in [STILL, (1, 1, 0, 1), (2, 3, 5, 7), (3, -5, 7, 2), (2, 0, 0, 1), (1, 0, 0, -1)]:
            with self.subTest(change=change):
                self.assertIs(is_change(change), True)

    def test_first_that_is_not_nought_may_be_the_second(self):
        self.assertIs(is_change((0, 1, 1, 0)), True)
        self.assertIs(is_change((0, 1, -1, 0)), True)
        self.assertIs(is_change((0, -1, 1, 0)), False)
        self.assertIs(is_change((0, -1, -1, 5)), False)

    def test_first_below_nought(self):
        self.assertIs(is_change((-1, 0, 0, -1)), False)
        self.assertIs(is_change((-1, 2, 3, 4)), False)

    def test_common_divisor(self):
        for four in [(2, 0, 0, 2), (2, 4, 6, 2), (3, 0, 0, -3), (0, 5, 5, 0), (6, 9, 3, 12)]:
            with self.subTest(four=four):
                self.assertIs(is_change(four), False)

    def test_divisor_of_some_but_not_of_all(self):
        for change in [(2, 4, 6, 1), (1, 2, 2, 2), (6, 10, 15, 30), (6, 10, 15, 0)]:
            with self.subTest(change=change):
                self.assertIs(is_change(change), True)

    def test_a_times_d_is_b_times_c(self):
        for four in [(0, 0, 0, 0), (1, 0, 0, 0), (0, 0, 0, 1), (1, 1, 1, 1), (1, 2, 2, 4), (0, 0, 1, 1), (0, 1, 0, 1)]:
            with self.subTest(four=four):
                self.assertIs(is_change(four), False)

    def test_every_small_four_as_the_words_say(self):
        for four in fours(3):
            self.assertIs(is_change(four), change_by_words(four), four)

    def test_numbers_of_thirty_figures(self):
        self.assertIs(is_change(LONG_CHANGE), True)
        self.assertIs(is_change((-LONG_A, LONG_B, LONG_C, LONG_D)), False)
        self.assertIs(is_change((LONG_A, LONG_A + 1, LONG_A - 1, LONG_A)), True)
        self.assertIs(is_change((LONG_A, LONG_A, LONG_B, LONG_B)), False)
        self.assertIs(is_change((LONG_A, 0, 0, LONG_A)), False)


class Moved(unittest.TestCase):
    """Promise [3], and [2] for what is told."""

    def test_ordinary_points(self):
        self.assertEqual(moved((1, 1, 0, 1), (1, 2)), (3, 2))
        self.assertEqual(moved((2, 3, 5, 7), (1, 1)), (5, 12))
        self.assertEqual(moved((1, 0, 0, -1), (3, 4)), (-3, 4))

    def test_told_in_lowest_terms(self):
        self.assertEqual(moved((2, 0, 0, 1), (1, 2)), (1, 1))
        self.assertEqual(moved((1, 1, 0, 2), (1, 1)), (1, 1))
        self.assertEqual(moved((5, 0, 0, 1), (0, 1)), (0, 1))
        self.assertEqual(moved((1, 0, 1, 3), (-6, 1)), (2, 1))

    def test_to_the_far_point(self):
        self.assertEqual(moved((0, 1, 1, 0), (0, 1)), FAR)
        self.assertEqual(moved((1, 0, 1, -3), (3, 1)), FAR)
        self.assertEqual(moved((1, 0, 1, 3), (-3, 1)), FAR)
        self.assertEqual(moved((1, 0, 4, -3), (3, 4)), FAR)

    def test_from_the_far_point(self):
        self.assertEqual(moved((0, 1, 1, 0), FAR), (0, 1))
        self.assertEqual(moved((4, 1, 6, 0), FAR), (2, 3))
        self.assertEqual(moved((4, 1, -6, 0), FAR), (-2, 3))

    def test_the_far_point_stays(self):
        self.assertEqual(moved((3, 1, 0, -1), FAR), FAR)
        self.assertEqual(moved((3, 1, 0, 2), FAR), FAR)

    def test_the_still_change_leaves_all(self):
        for point in POINTS + [(LONG_A, LONG_A + 1)]:
            self.assertEqual(moved(STILL, point), point)

    def test_as_fractions_have_it(self):
        for change in FEW_CHANGES:
            for point in POINTS:
                self.assertEqual(moved(change, point), led(change, point), (change, point))

    def test_no_two_changes_lead_alike(self):
        three = [(0, 1), (1, 1), FAR]
        ways = [tuple(moved(change, point) for point in three) for change in CHANGES]
        self.assertEqual(len(set(ways)), len(CHANGES))

    def test_numbers_of_thirty_figures(self):
        self.assertEqual(moved((1, LONG_A, 0, 1), (LONG_B, 1)), (1111111110111111111011111111102, 1))
        for point in [(LONG_B, LONG_B + 1), (-LONG_C, LONG_C - 1), (0, 1), FAR, (-LONG_D, 1), (1, LONG_D)]:
            with self.subTest(point=point):
                self.assertEqual(moved(LONG_CHANGE, point), led(LONG_CHANGE, point))

    def test_no_change(self):
        for four in NO_CHANGES:
            with self.subTest(four=four):
                with self.assertRaises(NoChange):
                    moved(four, (1, 2))

    def test_no_point(self):
        for pair in NO_POINTS:
            with self.subTest(pair=pair):
                with self.assertRaises(NoPoint):
                    moved((1, 1, 0, 1), pair)

    def test_no_change_comes_ahead_of_no_point(self):
        for pair in [(0, 0), (-1, 0), (0, 2), (1, -1)]:
            with self.subTest(pair=pair):
                with self.assertRaises(NoChange):
                    moved((2, 0, 0, 2), pair)


class After(unittest.TestCase):
    """Promise [4]."""

    def test_the_one_and_then_the_other(self):
        self.assertEqual(after((1, 1, 0, 1), (2, 0, 0, 1)), (2, 2, 0, 1))
        self.assertEqual(after((2, 0, 0, 1), (1, 1, 0, 1)), (2, 1, 0, 1))
        self.assertEqual(after((1, 1, 0, 1), (0, 1, 1, 0)), (0, 1, 1, 1))
        self.assertEqual(after((0, 1, 1, 0), (1, 1, 0, 1)), (1, 1, 1, 0))

    def test_told_without_a_common_divisor(self):
        self.assertEqual(after((2, 0, 0, 1), (1, 0, 0, 2)), STILL)

    def test_told_with_the_first_above_nought(self):
        self.assertEqual(after((0, 1, -1, 0), (0, 1, -1, 0)), STILL)
        self.assertEqual(after((0, 1, 1, 0), (1, 0, 0, -1)), (0, 1, -1, 0))
        self.assertEqual(after((1, 0, 0, -1), (0, 1, 1, 0)), (0, 1, -1, 0))

    def test_leads_each_point_by_both(self):
        for one in FEW_CHANGES:
            for other in FEW_CHANGES:
                both = after(one, other)
                self.assertTrue(change_by_words(both), (one, other))
                for point in [(0, 1), (1, 1), FAR, (-2, 3)]:
                    self.assertEqual(led(both, point), led(other, led(one, point)), (one, other, point))

    def test_numbers_of_thirty_figures(self):
        both = after(LONG_CHANGE, (LONG_D, LONG_C, -LONG_A, LONG_B))
        self.assertTrue(change_by_words(both))
        for point in [(0, 1), (1, 1), FAR, (LONG_A, LONG_A + 1)]:
            self.assertEqual(led(both, point), led((LONG_D, LONG_C, -LONG_A, LONG_B), led(LONG_CHANGE, point)))

    def test_no_change_in_either_place(self):
        for four in NO_CHANGES:
            with self.subTest(four=four):
                with self.assertRaises(NoChange):
                    after(four, (1, 1, 0, 1))
                with self.assertRaises(NoChange):
                    after((1, 1, 0, 1), four)


class Back(unittest.TestCase):
    """Promise [4]."""

    def test_ordinary_changes(self):
        self.assertEqual(back(STILL), STILL)
        self.assertEqual(back((1, 1, 0, 1)), (1, -1, 0, 1))
        self.assertEqual(back((2, 0, 0, 1)), (1, 0, 0, 2))
        self.assertEqual(back((2, 3, 5, 7)), (7, -3, -5, 2))

    def test_told_with_the_first_above_nought(self):
        self.assertEqual(back((1, 0, 0, -1)), (1, 0, 0, -1))
        self.assertEqual(back((0, 1, 1, 0)), (0, 1, 1, 0))
        self.assertEqual(back((0, 1, -1, 0)), (0, 1, -1, 0))
        self.assertEqual(back((1, 1, 1, 0)), (0, 1, 1, -1))

    def test_leads_each_point_back(self):
        for change in CHANGES + FEW_CHANGES + [LONG_CHANGE]:
            home = back(change)
            self.assertTrue(change_by_words(home), change)
            for point in [(0, 1), (1, 1), FAR, (-2, 3), (5, 1)]:
                self.assertEqual(led(home, led(change, point)), point, (change, point))

    def test_no_change(self):
        for four in NO_CHANGES:
            with self.subTest(four=four):
                with self.assertRaises(NoChange):
                    back(four)


class Power(unittest.TestCase):
    """Promise [4]."""

    def test_ordinary_times(self):
        self.assertEqual(power((1, 1, 0, 1), 5), (1, 5, 0, 1))
        self.assertEqual(power((2, 3, 5, 7), 1), (2, 3, 5, 7))
        self.assertEqual(power((2, 3, 5, 7), 2), (19, 27, 45, 64))

    def test_below_nought(self):
        self.assertEqual(power((1, 1, 0, 1), -5), (1, -5, 0, 1))
        self.assertEqual(power((2, 0, 0, 1), -3), (1, 0, 0, 8))
        self.assertEqual(power((2, 3, 5, 7), -1), (7, -3, -5, 2))

    def test_nought_times_leaves_all(self):
        for change in FEW_CHANGES + [LONG_CHANGE]:
            self.assertEqual(power(change, 0), STILL)

    def test_told_as_a_change(self):
        self.assertEqual(power((0, 1, -1, 0), 2), STILL)
        self.assertEqual(power((0, 2, 1, 0), 2), STILL)
        self.assertEqual(power((0, 2, 1, 0), 3), (0, 2, 1, 0))
        self.assertEqual(power((1, 1, -1, 1), 2), (0, 1, -1, 0))

    def test_the_most_times(self):
        ones = (2504730781961, 1548008755920, 1548008755920, 956722026041)
        self.assertEqual(power((1, 1, 1, 0), 60), ones)
        self.assertEqual(power((1, 1, 1, 0), -60), (ones[3], -ones[1], -ones[2], ones[0]))

    def test_every_number_of_times(self):
        for change in FEW_CHANGES[::9] + [(3, -5, 7, 2), (1, 1, -1, 1)]:
            for start in [(0, 1), (1, 1), FAR]:
                point = start
                for times in range(0, 61):
                    there = power(change, times)
                    self.assertTrue(change_by_words(there), (change, times))
                    self.assertEqual(led(there, start), point, (change, times))
                    home = power(change, -times)
                    self.assertTrue(change_by_words(home), (change, -times))
                    self.assertEqual(led(home, point), start, (change, -times))
                    point = led(change, point)

    def test_numbers_of_thirty_figures(self):
        self.assertEqual(power((1, LONG_A, 0, 1), 60), (1, 7407407340740740734074074073460, 0, 1))
        self.assertEqual(power((1, LONG_A, 0, 1), -60), (1, -7407407340740740734074074073460, 0, 1))
        there = power(LONG_CHANGE, 60)
        self.assertTrue(change_by_words(there))
        for start in [(0, 1), (1, 1), FAR]:
            point = start
            for turn in range(60):
                point = led(LONG_CHANGE, point)
            self.assertEqual(led(there, start), point)

    def test_no_times(self):
        # No subtests: a program that does not refuse 61 or -61 would reckon at the long ones for ever.
        for times in [61, -61, 62, 1000, -1000, LONG_A, -LONG_A]:
            with self.assertRaises(NoTimes):
                power((1, 1, 0, 1), times)
            with self.assertRaises(NoTimes):
                power(STILL, times)

    def test_no_change(self):
        for four in NO_CHANGES:
            with self.subTest(four=four):
                for times in [0, 1, -1, 60]:
                    with self.assertRaises(NoChange):
                        power(four, times)

    def test_no_change_comes_ahead_of_no_times(self):
        for times in [61, -61, LONG_A]:
            with self.assertRaises(NoChange):
                power((0, 0, 0, 0), times)
            with self.assertRaises(NoChange):
                power((2, 0, 0, 2), times)


if __name__ == "__main__":
    unittest.main()
