"""Points and changes as written texts, and texts read back to them."""

from crossline.changes import check_change, is_change
from crossline.errors import NoNote
from crossline.points import FAR, check_point, is_point

FAR_NOTE = "far"
FIGURES = "0123456789"
MOST_FIGURES = 30


def shown_point(point):
    """The text of a point."""
    check_point(point)
    if point == FAR:
        return FAR_NOTE
    if point[1] == 1:
        return str(point[0])
    return str(point[0]) + "/" + str(point[1])


def shown_change(change):
    """The text of a change."""
    check_change(change)
    return " ".join([str(number) for number in change])


def read_number(text):
    """The number that a text writes; every other text is refused."""
    figures = text[1:] if text.startswith("-") else text
    # Counted and looked at ahead of int, which takes more than is written here and fails at very long texts.
    if len(figures) < 1 or len(figures) > MOST_FIGURES:
        raise NoNote("a number has from one to thirty figures")
    if not all([figure in FIGURES for figure in figures]):
        raise NoNote("a number is written by figures, with - ahead of those below nought")
    number = int(text)
    if str(number) != text:
        raise NoNote("a number has no nought ahead, and nought no sign")
    return number


def read_point(text):
    """The point that a text writes; every other text is refused."""
    if text == FAR_NOTE:
        return FAR
    numbers = [read_number(part) for part in text.split("/")]
    if len(numbers) == 1:
        return (numbers[0], 1)
    point = tuple(numbers)
    # The far point and a bottom of 1 have a note of their own, without a stroke.
    if len(point) != 2 or point[1] < 2 or not is_point(point):
        raise NoNote("a top and a bottom that are no point so written")
    return point


def read_change(text):
    """The change that a text writes; every other text is refused."""
    change = tuple([read_number(part) for part in text.split(" ")])
    if len(change) != 4 or not is_change(change):
        raise NoNote("four numbers of a change are asked for, with one blank between")
    return change
