"""Changes of the line: where they lead, how they are joined, and which one leads some points to others."""

from crossline.errors import NoChange, NoThree, NoTimes
from crossline.points import check_point, common_divisor, lowest_point

MOST_TIMES = 60
FEWEST_POINTS = 3
MOST_POINTS = 8
STILL = (1, 0, 0, 1)


def lowest_change(numbers):
    """The change that leads points as four numbers a, b, c, d do, where a times d is not b times c."""
    divisor = 0
    for number in numbers:
        divisor = common_divisor(divisor, number)
    # With a and b both nought, a times d would be b times c: so the first that isn't nought is one of them.
    first = numbers[0] if numbers[0] != 0 else numbers[1]
    if first < 0:
        divisor = -divisor
    return tuple([number // divisor for number in numbers])


def is_change(change):
    """Whether a tuple of four numbers is a change."""
    if change[0] * change[3] == change[1] * change[2]:
        return False
    return lowest_change(change) == change


def check_change(change):
    """Refuse what is no change."""
    if not is_change(change):
        raise NoChange("the four numbers are no change in its lowest form")


def moved(change, point):
    """The point to which the change leads the point."""
    check_change(change)
    check_point(point)
    top = change[0] * point[0] + change[1] * point[1]
    bottom = change[2] * point[0] + change[3] * point[1]
    return lowest_point(top, bottom)


def joined(one, other):
    """Four numbers that lead as one and then other; they may have a common divisor still."""
    return (
        other[0] * one[0] + other[1] * one[2],
        other[0] * one[1] + other[1] * one[3],
        other[2] * one[0] + other[3] * one[2],
        other[2] * one[1] + other[3] * one[3],
    )


def after(one, other):
    """The change that does the one and then the other."""
    check_change(one)
    check_change(other)
    return lowest_change(joined(one, other))


def back(change):
    """The change that leads each point back."""
    check_change(change)
    return lowest_change((change[3], -change[1], -change[2], change[0]))


def power(change, times):
    """The change done so many times; below nought, the one back."""
    check_change(change)
    if abs(times) > MOST_TIMES:
        raise NoTimes("a change is done from -60 to 60 times")
    step = back(change) if times < 0 else change
    numbers = STILL
    # Brought to lowest terms once, at the end: that is the slow part with long numbers.
    for done in range(abs(times)):
        numbers = joined(numbers, step)
    return lowest_change(numbers)


def gap(one, other):
    """A number that is nought just where two points are the same."""
    return one[0] * other[1] - one[1] * other[0]


def to_base(one, two, three):
    """The change that leads three unlike points to the far point, to 0 and to 1."""
    # It leads x to gap(x, two) * gap(three, one) by gap(x, one) * gap(three, two).
    upper = gap(three, one)
    lower = gap(three, two)
    return lowest_change((two[1] * upper, -two[0] * upper, one[1] * lower, -one[0] * lower))


def unlike(points):
    """Whether no two of the points are the same."""
    return len(set(points)) == len(points)


def check_told(points, goals):
    """Refuse lists of points by which no change is told."""
    for point in points + goals:
        check_point(point)
    if len(points) != len(goals):
        raise NoThree("not as many goals as points")
    if len(points) < FEWEST_POINTS or len(points) > MOST_POINTS:
        raise NoThree("a change is told by three to eight points")
    if not unlike(points) or not unlike(goals):
        raise NoThree("two points or two goals are alike")


def told_by(points, goals):
    """The change that leads each point to its goal, or None where there is none."""
    check_told(points, goals)
    there = to_base(points[0], points[1], points[2])
    onward = back(to_base(goals[0], goals[1], goals[2]))
    # Three points leave just one change to choose: the later points fit it, or nothing does.
    change = after(there, onward)
    for point, goal in zip(points, goals):
        if moved(change, point) != goal:
            return None
    return change
