"""Points of the line: fractions in lowest terms, and the far point."""

from crossline.errors import NoPoint

FAR = (1, 0)


def common_divisor(one, other):
    """The greatest common divisor, never below nought; that of nought and a number is the number's size."""
    larger = abs(one)
    smaller = abs(other)
    while smaller != 0:
        rest = larger % smaller
        larger = smaller
        smaller = rest
    return larger


def lowest_point(top, bottom):
    """The point of top by bottom, which are not both nought."""
    if bottom == 0:
        return FAR
    divisor = common_divisor(top, bottom)
    if bottom < 0:
        divisor = -divisor
    return (top // divisor, bottom // divisor)


def is_point(point):
    """Whether a tuple of two numbers is a point."""
    return lowest_point(point[0], point[1]) == point


def check_point(point):
    """Refuse what is no point."""
    # The numbers stay out of the words: Python won't write very long ones.
    if not is_point(point):
        raise NoPoint("not in lowest terms with a bottom above nought, and not the far point")
