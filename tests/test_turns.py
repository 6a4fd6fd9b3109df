import unittest

from crossline.changes import after, power, told_by
from crossline.errors import NoChange
from crossline.turns import kept, turns, two_turns
from samples import (
    CHANGES,
    FAR,
    FEW_CHANGES,
    LONG_A,
    LONG_B,
    LONG_C,
    LONG_D,
    NO_CHANGES,
    POINTS,
    STILL,
    change_by_words,
    led,
    pairs,
    point_by_words,
)

THREE = [(0, 1), (1, 1), FAR]
# Every point that a change with numbers from -2 to 2 can leave, and more.
WIDE = [pair for pair in pairs(12) if point_by_words(pair)]
LONG_CHANGE = (LONG_A, LONG_B, LONG_C, LONG_D)
LONG_TURN = (LONG_A, LONG_B, LONG_C, -LONG_A)


def counted_turns(change):
    """Promise [9] word by word, three points standing for all, up to twice twelve times."""
    points = THREE
    for times in range(1, 25):
        points = [led(change, point) for point in points]
        if points == THREE:
            return times
    return None


def behind(change, three):
    """The change as it looks where 0, 1 and the far point are called by other names."""
    there = told_by(THREE, three)
    home = told_by(three, THREE)
    return after(after(home, change), there)


class Turns(unittest.TestCase):
    """Promise [9]."""

    def test_the_change_that_leaves_all(self):
        self.assertEqual(turns(STILL), 1)

    def test_two(self):
        for change in [(1, 0, 0, -1), (0, 1, 1, 0), (0, 1, -1, 0), (0, 2, 1, 0), (3, 5, 7, -3), (1, 7, 0, -1)]:
            with self.subTest(change=change):
                self.assertEqual(turns(change), 2)

    def test_three(self):
        for change in [(0, 1, -1, 1), (0, 1, -1, -1), (1, -1, 1, 0), (1, 1, -1, 0), (1, -3, 1, -2)]:
            with self.subTest(change=change):
                self.assertEqual(turns(change), 3)

    def test_four(self):
        for change in [(1, 1, -1, 1), (1, -1, 1, 1), (0, 2, -1, 2), (2, -1, 2, 0)]:
            with self.subTest(change=change):
                self.assertEqual(turns(change), 4)

    def test_six(self):
        for change in [(1, 1, -1, 2), (2, -1, 1, 1), (0, 3, -1, 3), (3, -1, 3, 0)]:
            with self.subTest(change=change):
                self.assertEqual(turns(change), 6)

    def test_none(self):
        for change in [(1, 1, 0, 1), (2, 0, 0, 1), (1, 1, 1, 0), (2, 3, 5, 7), (2, 1, -1, 2), (1, 0, 1, -2)]:
            with self.subTest(change=change):
                self.assertIsNone(turns(change))

    def test_as_counted(self):
        met = {}
        for change in CHANGES + FEW_CHANGES:
            told = turns(change)
            met[told] = True
            self.assertEqual(told, counted_turns(change), change)
        self.assertEqual(set(met), {1, 2, 3, 4, 6, None})

    def test_power_agrees(self):
        for change in CHANGES[::5] + FEW_CHANGES:
            told = turns(change)
            back_home = [times for times in range(1, 61) if power(change, times) == STILL]
            expected = [] if told is None else list(range(told, 61, told))
            self.assertEqual(back_home, expected, change)

    def test_numbers_of_thirty_figures(self):
        self.assertEqual(turns(LONG_TURN), 2)
        self.assertIsNone(turns(LONG_CHANGE))
        self.assertIsNone(turns((LONG_A, LONG_B, LONG_C, 1 - LONG_A)))
        three = [(LONG_A, 1), (LONG_B, LONG_B + 1), (-1, LONG_C)]
        for change in [(0, 1, 1, 0), (0, 1, -1, 1), (1, 1, -1, 1), (1, 1, -1, 2), (1, 1, 0, 1)]:
            self.assertEqual(turns(behind(change, three)), turns(change))

    def test_two_points_led_one_to_the_other_and_back(self):
        """Promise [11]."""
        points = POINTS[::3] + [FAR, (0, 1)]
        for one in points:
            for other in points:
                for third, goal in [((1, 7), (5, 7)), ((1, 7), (1, 7)), ((-9, 2), (8, 3))]:
                    if one != other:
                        change = told_by([one, other, third], [other, one, goal])
                        self.assertEqual(turns(change), 2, (one, other, third, goal))

    def test_no_change(self):
        for four in NO_CHANGES:
            with self.subTest(four=four):
                with self.assertRaises(NoChange):
                    turns(four)


class Kept(unittest.TestCase):
    """Promise [10]."""

    def test_all(self):
        self.assertIsNone(kept(STILL))

    def test_none(self):
        for change in [(0, 1, -1, 0), (0, 2, 1, 0), (1, 1, 1, 0), (0, 1, -1, 1), (1, 1, 1, -1)]:
            with self.subTest(change=change):
                self.assertEqual(kept(change), [])

    def test_one(self):
        self.assertEqual(kept((1, 1, 0, 1)), [FAR])
        self.assertEqual(kept((2, -3, 0, 2)), [FAR])
        self.assertEqual(kept((1, 0, 1, 1)), [(0, 1)])
        self.assertEqual(kept((2, -1, 1, 0)), [(1, 1)])
        self.assertEqual(kept((5, -9, 4, -7)), [(3, 2)])
        self.assertEqual(kept((5, 9, -4, -7)), [(-3, 2)])

    def test_two(self):
        self.assertEqual(kept((0, 1, 1, 0)), [(-1, 1), (1, 1)])
        self.assertEqual(kept((0, 4, 1, 0)), [(-2, 1), (2, 1)])
        self.assertEqual(kept((0, 4, 9, 0)), [(-2, 3), (2, 3)])
        self.assertEqual(kept((5, -6, 1, 0)), [(2, 1), (3, 1)])

    def test_the_far_one_and_another(self):
        self.assertEqual(kept((2, 0, 0, 1)), [(0, 1), FAR])
        self.assertEqual(kept((1, 0, 0, -1)), [(0, 1), FAR])
        self.assertEqual(kept((2, 3, 0, 1)), [(-3, 1), FAR])
        self.assertEqual(kept((1, 3, 0, 2)), [FAR, (3, 1)])

    def test_rising_by_tops_and_not_by_their_place(self):
        # A third is less than a half, but with like tops the lesser bottom comes first.
        self.assertEqual(kept(behind((2, 0, 0, 1), [(1, 2), (7, 1), (1, 3)])), [(1, 2), (1, 3)])
        self.assertEqual(kept(behind((2, 0, 0, 1), [(1, 3), (7, 1), (1, 2)])), [(1, 2), (1, 3)])
        self.assertEqual(kept(behind((2, 0, 0, 1), [(5, 6), (7, 1), (2, 1)])), [(2, 1), (5, 6)])
        self.assertEqual(kept(behind((2, 0, 0, 1), [(-5, 6), (7, 1), (-2, 1)])), [(-5, 6), (-2, 1)])

    def test_the_far_one_by_its_top_and_bottom(self):
        self.assertEqual(kept((1, 1, 0, 2)), [FAR, (1, 1)])
        self.assertEqual(kept((1, 1, 0, 4)), [FAR, (1, 3)])
        self.assertEqual(kept((4, 1, 0, 1)), [(-1, 3), FAR])

    def test_every_pair_of_points(self):
        for one in POINTS[::2] + [FAR]:
            for other in POINTS[::2] + [FAR]:
                if one != other:
                    third = [point for point in WIDE if point != one and point != other][0]
                    self.assertEqual(kept(behind((3, 0, 0, 1), [one, third, other])), sorted([one, other]))

    def test_every_single_point(self):
        for point in POINTS:
            two = [other for other in WIDE if other != point][:2]
            self.assertEqual(kept(behind((1, 1, 0, 1), two + [point])), [point])

    def test_just_the_points_that_are_led_to_themselves(self):
        for change in CHANGES:
            if change != STILL:
                left = [point for point in WIDE if led(change, point) == point]
                self.assertEqual(kept(change), sorted(left), change)

    def test_numbers_of_thirty_figures(self):
        self.assertEqual(kept((1, LONG_A, 0, 1)), [FAR])
        self.assertEqual(kept((1, LONG_A, 0, 2)), [FAR, (LONG_A, 1)])
        self.assertEqual(kept((0, LONG_A, LONG_B, 0)), [])
        root = LONG_A // 10 ** 15
        for aside in [-1, 1]:
            self.assertEqual(kept((0, root * root + aside, 1, 0)), [])
        self.assertEqual(kept((0, root * root, 1, 0)), [(-root, 1), (root, 1)])
        # (x - LONG_A) * (x - LONG_A - 1) is nought.
        numbers = (LONG_A * 2 + 1, -LONG_A * (LONG_A + 1), 1, 0)
        self.assertEqual(kept(numbers), [(LONG_A, 1), (LONG_A + 1, 1)])
        three = [(LONG_A, 1), (LONG_B, LONG_B + 1), (-1, LONG_C)]
        self.assertEqual(kept(behind((2, 0, 0, 1), three)), [(-1, LONG_C), (LONG_A, 1)])
        self.assertEqual(kept(behind((1, 1, 0, 1), three)), [(-1, LONG_C)])
        self.assertEqual(kept(behind((0, 2, 1, 0), three)), [])

    def test_no_two_lists_are_one(self):
        for change in [(0, 1, 1, 0), (2, 0, 0, 1), (1, 1, 0, 1), (1, 0, 1, 1), (0, 1, -1, 0), (0, 2, 1, 0)]:
            first = kept(change)
            held = list(first)
            second = kept(change)
            self.assertIsNot(first, second)
            first.append((7, 1))
            first.reverse()
            self.assertEqual(second, held)
            self.assertEqual(kept(change), held)
        self.assertEqual(kept((1, 2, 0, 1)), [FAR])
        self.assertEqual(kept((0, 3, 1, 0)), [])

    def test_no_change(self):
        for four in NO_CHANGES:
            with self.subTest(four=four):
                with self.assertRaises(NoChange):
                    kept(four)


class TwoTurns(unittest.TestCase):
    """Promise [11]."""

    def check(self, change):
        told = two_turns(change)
        self.assertIs(type(told), tuple)
        self.assertEqual(len(told), 2)
        for part in told:
            self.assertTrue(change_by_words(part), change)
            self.assertEqual(counted_turns(part), 2, change)
            self.assertEqual(turns(part), 2, change)
        self.assertEqual(after(told[0], told[1]), change)
        for point in THREE:
            self.assertEqual(led(told[1], led(told[0], point)), led(change, point), change)

    def test_the_change_that_leaves_all(self):
        self.check(STILL)

    def test_of_two_turns(self):
        for change in [(1, 0, 0, -1), (0, 1, 1, 0), (0, 1, -1, 0), (0, 2, 1, 0), (3, 5, 7, -3), (1, 7, 0, -1)]:
            with self.subTest(change=change):
                self.check(change)
        self.check((1, 0, 7, -1))

    def test_of_more_turns(self):
        for change in [(0, 1, -1, 1), (1, 1, -1, 1), (1, 1, -1, 2)]:
            with self.subTest(change=change):
                self.check(change)

    def test_of_one_kept_point_and_of_none(self):
        for change in [(1, 1, 0, 1), (1, 0, 1, 1), (5, -9, 4, -7), (1, 1, 1, 0), (2, 1, -1, 2), (1, 0, 0, 2)]:
            with self.subTest(change=change):
                self.check(change)

    def test_every_small_change(self):
        for change in CHANGES + FEW_CHANGES:
            self.check(change)

    def test_numbers_of_thirty_figures(self):
        for change in [
            LONG_CHANGE,
            LONG_TURN,
            (1, LONG_A, 0, 1),
            (1, 0, LONG_A, 1),
            (LONG_A, 0, 0, LONG_B),
            (LONG_A, 0, LONG_C, LONG_B),
            (0, LONG_A, LONG_B, 0),
        ]:
            with self.subTest(change=change):
                self.check(change)

    def test_no_change(self):
        for four in NO_CHANGES:
            with self.subTest(four=four):
                with self.assertRaises(NoChange):
                    two_turns(four)


if __name__ == "__main__":
    unittest.main()
