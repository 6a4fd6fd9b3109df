"""The number of four points, which no change alters, and the fourth point that a number tells."""

from crossline.changes import back, moved, to_base, unlike
from crossline.errors import NoThree
from crossline.points import check_point


def check_three(one, two, three, last):
    """Refuse what is no point, then three points that are not unlike; the last may be like one of them."""
    for point in (one, two, three, last):
        check_point(point)
    if not unlike((one, two, three)):
        raise NoThree("two of the first three points are alike")


def cross(one, two, three, four):
    """The number of four points: where the fourth goes if the three go to the far point, to 0 and to 1."""
    check_three(one, two, three, four)
    return moved(to_base(one, two, three), four)


def fourth(one, two, three, number):
    """The one point whose number with the three is the told one."""
    check_three(one, two, three, number)
    return moved(back(to_base(one, two, three)), number)
