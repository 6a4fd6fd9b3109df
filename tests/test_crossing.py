import unittest
from fractions import Fraction
from itertools import permutations

from crossline.changes import moved, told_by
from crossline.crossing import cross, fourth
from crossline.errors import NoPoint, NoThree
from samples import FAR, FEW_CHANGES, LONG_A, LONG_B, LONG_C, LONG_D, NO_POINTS, POINTS, led, point_by_words

NOUGHT = (0, 1)
ONE = (1, 1)
BASE = [FAR, NOUGHT, ONE]
FIVE = [FAR, NOUGHT, (2, 1), (-3, 2), (1, 4)]
THREES = list(permutations(FIVE, 3))
FOURS = list(permutations(FIVE, 4))
LONG_POINTS = [(LONG_A, 1), (LONG_B, LONG_B + 1), (-1, LONG_C), (LONG_D, 1)]


def gap(one, other):
    return one[0] * other[1] - one[1] * other[0]


def number_of(one, two, three, four):
    """The number of four points, by Python's own fractions."""
    bottom = gap(four, one) * gap(three, two)
    if bottom == 0:
        return FAR
    fraction = Fraction(gap(four, two) * gap(three, one), bottom)
    return (fraction.numerator, fraction.denominator)


class Cross(unittest.TestCase):
    """Promise [6]."""

    def test_ordinary_points(self):
        self.assertEqual(cross((2, 1), (3, 1), (4, 1), (5, 1)), (4, 3))
        self.assertEqual(cross((1, 2), (-1, 1), (3, 1), (2, 3)), (25, 4))

    def test_the_far_point_at_each_place(self):
        self.assertEqual(cross(FAR, (2, 1), (3, 1), (7, 1)), (5, 1))
        self.assertEqual(cross((2, 1), FAR, (3, 1), (7, 1)), (1, 5))
        self.assertEqual(cross((2, 1), (3, 1), FAR, (7, 1)), (4, 5))
        self.assertEqual(cross((2, 1), (3, 1), (7, 1), FAR), (5, 4))

    def test_with_the_far_point_nought_and_one_it_is_the_fourth(self):
        for point in POINTS:
            self.assertEqual(cross(FAR, NOUGHT, ONE, point), point)

    def test_the_fourth_alike_with_one_of_the_three(self):
        for one, two, three in THREES:
            self.assertEqual(cross(one, two, three, one), FAR)
            self.assertEqual(cross(one, two, three, two), NOUGHT)
            self.assertEqual(cross(one, two, three, three), ONE)

    def test_where_the_fourth_goes_by_the_change_of_the_three(self):
        for one, two, three in THREES:
            change = told_by([one, two, three], BASE)
            for four in POINTS:
                number = cross(one, two, three, four)
                self.assertTrue(point_by_words(number))
                self.assertEqual(number, led(change, four), (one, two, three, four))
                self.assertEqual(number, number_of(one, two, three, four), (one, two, three, four))

    def test_the_same_behind_every_change(self):
        for change in FEW_CHANGES:
            for points in FOURS[::5]:
                goals = [moved(change, point) for point in points]
                self.assertEqual(cross(*points), cross(*goals), (change, points))

    def test_four_are_led_to_four_just_where_their_numbers_are_the_same(self):
        met = {True: 0, False: 0}
        others = list(permutations([FAR, ONE, (3, 2), (-1, 1), (1, 3)], 4))
        for points in FOURS[::7]:
            for goals in FOURS + others:
                same = cross(*points) == cross(*goals)
                change = told_by(list(points), list(goals))
                met[same] += 1
                self.assertEqual(change is not None, same, (points, goals))
                if same:
                    self.assertEqual([led(change, point) for point in points], list(goals))
        self.assertGreater(met[True], len(FOURS[::7]))
        self.assertGreater(met[False], 0)

    def test_numbers_of_thirty_figures(self):
        for points in permutations(LONG_POINTS + [FAR], 4):
            self.assertEqual(cross(*points), number_of(*points))
        self.assertEqual(cross(FAR, (LONG_A, 1), (LONG_A + 1, 1), (LONG_B, 1)), (LONG_B - LONG_A, 1))


class ChangedAbout(unittest.TestCase):
    """Promise [7]."""

    def test_the_first_two_changed_about(self):
        for one, two, three, four in FOURS + list(permutations(LONG_POINTS)):
            number = cross(one, two, three, four)
            divided = Fraction(number[1], number[0])
            self.assertEqual(cross(two, one, three, four), (divided.numerator, divided.denominator))

    def test_the_second_and_the_third_changed_about(self):
        for one, two, three, four in FOURS + list(permutations(LONG_POINTS)):
            less = 1 - Fraction(*cross(one, two, three, four))
            self.assertEqual(cross(one, three, two, four), (less.numerator, less.denominator))

    def test_two_pairs_changed_about_at_once(self):
        for one, two, three, four in FOURS + list(permutations(LONG_POINTS)):
            number = cross(one, two, three, four)
            self.assertEqual(cross(two, one, four, three), number)
            self.assertEqual(cross(three, four, one, two), number)
            self.assertEqual(cross(four, three, two, one), number)


class Fourth(unittest.TestCase):
    """Promise [8]."""

    def test_ordinary_numbers(self):
        self.assertEqual(fourth((2, 1), (3, 1), (4, 1), (4, 3)), (5, 1))
        self.assertEqual(fourth((1, 2), (-1, 1), (3, 1), (25, 4)), (2, 3))
        self.assertEqual(fourth((2, 1), (3, 1), (7, 1), (5, 4)), FAR)

    def test_of_the_far_point_nought_and_one(self):
        for one, two, three in THREES:
            self.assertEqual(fourth(one, two, three, FAR), one)
            self.assertEqual(fourth(one, two, three, NOUGHT), two)
            self.assertEqual(fourth(one, two, three, ONE), three)

    def test_cross_and_fourth_undo_each_other(self):
        for one, two, three in THREES:
            for point in POINTS:
                four = fourth(one, two, three, point)
                self.assertTrue(point_by_words(four))
                self.assertEqual(number_of(one, two, three, four), point)
                self.assertEqual(cross(one, two, three, four), point)
                self.assertEqual(fourth(one, two, three, cross(one, two, three, point)), point)

    def test_just_one_point_for_each_number(self):
        for one, two, three in THREES:
            told = [fourth(one, two, three, number) for number in POINTS]
            self.assertEqual(len(set(told)), len(POINTS))

    def test_numbers_of_thirty_figures(self):
        for one, two, three, number in permutations(LONG_POINTS + [FAR], 4):
            four = fourth(one, two, three, number)
            self.assertEqual(number_of(one, two, three, four), number)
            self.assertEqual(cross(one, two, three, four), number)


class Refused(unittest.TestCase):
    """Promises [6] and [8], and which refusal comes first."""

    def refuse(self, error, *points):
        for function in (cross, fourth):
            with self.subTest(function=function.__name__, points=points):
                with self.assertRaises(error):
                    function(*points)

    def test_three_that_are_not_unlike(self):
        for alike in FIVE:
            for other in FIVE:
                for last in FIVE:
                    self.refuse(NoThree, alike, alike, other, last)
                    self.refuse(NoThree, alike, other, alike, last)
                    self.refuse(NoThree, other, alike, alike, last)

    def test_no_point_at_each_place(self):
        four = [FAR, NOUGHT, ONE, (2, 1)]
        for pair in NO_POINTS:
            for place in range(4):
                self.refuse(NoPoint, *(four[:place] + [pair] + four[place + 1:]))

    def test_no_point_comes_ahead_of_no_three(self):
        for pair in NO_POINTS:
            self.refuse(NoPoint, ONE, ONE, ONE, pair)
            self.refuse(NoPoint, ONE, ONE, NOUGHT, pair)
            self.refuse(NoPoint, NOUGHT, ONE, ONE, pair)
            self.refuse(NoPoint, ONE, ONE, pair, FAR)
            self.refuse(NoPoint, ONE, pair, ONE, FAR)
            self.refuse(NoPoint, pair, ONE, ONE, FAR)
            self.refuse(NoPoint, pair, pair, ONE, FAR)
            self.refuse(NoPoint, pair, pair, pair, pair)


if __name__ == "__main__":
    unittest.main()
