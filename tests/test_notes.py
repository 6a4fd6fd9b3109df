import unittest
from itertools import product

from crossline.errors import NoChange, NoNote, NoPoint
from crossline.notes import read_change, read_point, shown_change, shown_point
from samples import (
    CHANGES,
    FAR,
    FEW_CHANGES,
    LONG_A,
    LONG_B,
    LONG_C,
    LONG_D,
    NO_CHANGES,
    NO_POINTS,
    POINTS,
    STILL,
    change_by_words,
    point_by_words,
)

POINT_NOTES = {
    (0, 1): "0",
    (1, 1): "1",
    (7, 1): "7",
    (-7, 1): "-7",
    (10, 1): "10",
    (3, 4): "3/4",
    (-3, 4): "-3/4",
    (1, 10): "1/10",
    (100, 7): "100/7",
    (LONG_A, 1): "123456789012345678901234567891",
    (-LONG_A, 1): "-123456789012345678901234567891",
    (-LONG_A, LONG_B): "-123456789012345678901234567891/987654321098765432109876543211",
    FAR: "far",
}
CHANGE_NOTES = {
    STILL: "1 0 0 1",
    (0, 1, -1, 0): "0 1 -1 0",
    (2, 3, 5, 7): "2 3 5 7",
    (3, -5, -7, 2): "3 -5 -7 2",
    (10, 0, 20, 101): "10 0 20 101",
    (LONG_A, -LONG_B, 0, LONG_D): "123456789012345678901234567891 -987654321098765432109876543211 0 "
                                  "100000000000000000000000000057",
}
# What goes wrong with one number, wherever it stands.
WRONG_NUMBERS = [
    "", "-", "--1", "+1", "+0", "-0", "00", "01", "-01", "007", "1-", "1.0", "1.", ".5", "1e3", "0x1", "1_0", "1,0",
    "x", "1x", "x1", "far", "Far", "FAR", "(1)", "1;", "~", "!", "1\t", "\t1", "1\n", "\n1", "- 1", "'1'", "\"1\"", "1\r",
]
THIRTY = "9" * 30
THIRTY_ONE = "1" + "0" * 30


class ShownPoint(unittest.TestCase):
    """Promise [12]."""

    def test_ordinary_points(self):
        for point, note in POINT_NOTES.items():
            with self.subTest(point=point):
                self.assertEqual(shown_point(point), note)

    def test_no_two_points_are_written_alike(self):
        self.assertEqual(len({shown_point(point) for point in POINTS}), len(POINTS))

    def test_beyond_thirty_figures(self):
        self.assertEqual(shown_point((10 ** 40, 1)), "1" + "0" * 40)
        self.assertEqual(shown_point((-1, 10 ** 40)), "-1/1" + "0" * 40)

    def test_no_point(self):
        for pair in NO_POINTS:
            with self.subTest(pair=pair):
                with self.assertRaises(NoPoint):
                    shown_point(pair)


class ShownChange(unittest.TestCase):
    """Promise [12]."""

    def test_ordinary_changes(self):
        for change, note in CHANGE_NOTES.items():
            with self.subTest(change=change):
                self.assertEqual(shown_change(change), note)

    def test_beyond_thirty_figures(self):
        self.assertEqual(shown_change((1, -10 ** 40, 0, 1)), "1 -1" + "0" * 40 + " 0 1")

    def test_no_change(self):
        for four in NO_CHANGES:
            with self.subTest(four=four):
                with self.assertRaises(NoChange):
                    shown_change(four)


class ReadPoint(unittest.TestCase):
    """Promise [12]."""

    def refuse(self, text):
        with self.subTest(text=text):
            with self.assertRaises(NoNote):
                read_point(text)

    def test_ordinary_texts(self):
        for point, note in POINT_NOTES.items():
            with self.subTest(note=note):
                self.assertEqual(read_point(note), point)

    def test_what_is_written_is_read_to_the_same(self):
        for point in POINTS + [(LONG_A, LONG_A + 1), (-LONG_C, LONG_C - 1), (1, LONG_D)]:
            self.assertEqual(read_point(shown_point(point)), point)

    def test_wrong_numbers(self):
        for wrong in WRONG_NUMBERS:
            if wrong != "far":
                self.refuse(wrong)
            self.refuse(wrong + "/2")
            self.refuse("1/" + wrong)
            self.refuse(wrong + "/" + wrong)

    def test_blanks_tabs_and_line_ends(self):
        for note in ["1", "-1", "3/4", "far"]:
            for gap in [" ", "  ", "\t", "\n", "\n\n", "\r\n"]:
                self.refuse(gap + note)
                self.refuse(note + gap)
                self.refuse(gap + note + gap)
        for text in [" ", "  ", "\n", "\t", "3 /4", "3/ 4", "3 / 4", "3\n/4", "- 3/4", "fa r", "1 2", "1 0 0 1"]:
            self.refuse(text)

    def test_a_bottom_of_one_or_of_nought(self):
        for text in ["1/1", "0/1", "-5/1", "7/1", "1/0", "0/0", "-1/0", "2/0", "-1/1", "far/1", "1/far"]:
            self.refuse(text)

    def test_not_in_lowest_terms(self):
        for text in ["2/4", "-2/4", "0/2", "2/2", "6/3", "0/7", THIRTY + "/3"]:
            self.refuse(text)

    def test_a_bottom_below_nought(self):
        for text in ["1/-2", "-1/-2", "0/-1", "1/-1", "3/-4"]:
            self.refuse(text)

    def test_strokes(self):
        for text in ["/", "//", "1/", "/2", "1//2", "1/2/", "/1/2", "1/2/3", "1/2/3/4", "1\\2", "1:2", "1|2", "-/2"]:
            self.refuse(text)

    def test_other_words(self):
        for text in ["Far", "FAR", "fAr", "-far", "+far", "farr", "fa", "f", "far far", "far/", "none", "inf", "nan"]:
            self.refuse(text)

    def test_thirty_figures_and_more(self):
        self.assertEqual(read_point(THIRTY), (10 ** 30 - 1, 1))
        self.assertEqual(read_point("-" + THIRTY), (1 - 10 ** 30, 1))
        self.assertEqual(read_point("1/" + THIRTY), (1, 10 ** 30 - 1))
        self.assertEqual(read_point("-" + THIRTY + "/" + THIRTY[1:] + "8"), (1 - 10 ** 30, 10 ** 30 - 2))
        for text in [THIRTY_ONE, "-" + THIRTY_ONE, "1/" + THIRTY_ONE, "-1/" + THIRTY_ONE]:
            self.refuse(text)
        self.refuse(THIRTY_ONE + "/7")
        self.refuse("1" + THIRTY)
        self.refuse("0" + THIRTY)
        self.refuse("0" * 31)
        self.refuse("9" * 5000)
        self.refuse("1/" + "9" * 5000)

    def test_every_short_text(self):
        notes = {}
        for point in product(range(-99, 1000), range(0, 100)):
            if point_by_words(point):
                notes[shown_point(point)] = point
        for length in range(4):
            for signs in product("0129-+/ \n", repeat=length):
                text = "".join(signs)
                if text in notes:
                    self.assertEqual(read_point(text), notes[text])
                else:
                    with self.assertRaises(NoNote, msg=repr(text)):
                        read_point(text)


class ReadChange(unittest.TestCase):
    """Promise [12]."""

    def refuse(self, text):
        with self.subTest(text=text):
            with self.assertRaises(NoNote):
                read_change(text)

    def test_ordinary_texts(self):
        for change, note in CHANGE_NOTES.items():
            with self.subTest(note=note):
                self.assertEqual(read_change(note), change)

    def test_what_is_written_is_read_to_the_same(self):
        for change in CHANGES + FEW_CHANGES + [(LONG_A, LONG_B, LONG_C, LONG_D)]:
            self.assertEqual(read_change(shown_change(change)), change)

    def test_wrong_numbers(self):
        for wrong in WRONG_NUMBERS + ["1/2", "1/1"]:
            for place in range(4):
                parts = ["2", "3", "5", "7"]
                parts[place] = wrong
                self.refuse(" ".join(parts))

    def test_noughts_so_written_that_they_would_fit(self):
        for text in ["1 -0 0 1", "1 0 00 1", "01 0 0 1", "1 0 0 01", "+1 0 0 1", "1 0 0 +1"]:
            self.refuse(text)

    def test_blanks_tabs_and_line_ends(self):
        for gap in [" ", "  ", "\t", "\n", "\r\n"]:
            self.refuse(gap + "1 0 0 1")
            self.refuse("1 0 0 1" + gap)
        for gap in ["  ", "   ", "\t", "\n", " \t", "\t ", " \n", "", ",", ", ", "/"]:
            self.refuse("1" + gap + "0 0 1")
            self.refuse("1 0" + gap + "0 1")
            self.refuse("1 0 0" + gap + "1")
        for text in ["", " ", "   ", "    ", "\n", "\t"]:
            self.refuse(text)

    def test_too_few_or_too_many_numbers(self):
        for text in ["1", "1 0", "1 0 0", "1 0 0 1 0", "1 0 0 1 1", "1 0 0 1 1 0 0 1", "0", "far", "1/2"]:
            self.refuse(text)

    def test_four_numbers_that_are_no_change(self):
        for four in NO_CHANGES:
            self.refuse(" ".join([str(number) for number in four]))

    def test_brackets_and_words(self):
        for text in ["(1, 0, 0, 1)", "(1 0 0 1)", "[1 0 0 1]", "1 0 0 far", "far 0 0 1", "far far far far", "a b c d"]:
            self.refuse(text)

    def test_thirty_figures_and_more(self):
        self.assertEqual(read_change("1 " + THIRTY + " 0 1"), (1, 10 ** 30 - 1, 0, 1))
        self.assertEqual(read_change("1 -" + THIRTY + " 0 1"), (1, 1 - 10 ** 30, 0, 1))
        self.assertEqual(read_change(THIRTY + " 1 0 -" + THIRTY), (10 ** 30 - 1, 1, 0, 1 - 10 ** 30))
        for text in [THIRTY_ONE, "-" + THIRTY_ONE, "1" + THIRTY, "9" * 5000]:
            self.refuse("1 " + text + " 0 1")
            self.refuse("1 0 " + text + " 1")
            self.refuse("1 0 0 " + text)
        self.refuse(THIRTY_ONE + " 1 0 1")

    def test_every_short_text(self):
        for numbers in product(["0", "1", "-1", "2", "-0", "02", ""], repeat=4):
            text = " ".join(numbers)
            if all(number in ("0", "1", "-1", "2") for number in numbers):
                four = tuple(int(number) for number in numbers)
                if change_by_words(four):
                    self.assertEqual(read_change(text), four)
                    continue
            with self.assertRaises(NoNote, msg=repr(text)):
                read_change(text)


if __name__ == "__main__":
    unittest.main()
