"""How often a change must be done until all points are back, what it leaves, and the two turns that make it."""

from crossline.changes import STILL, after, check_change, lowest_change, power
from crossline.points import FAR, lowest_point

# Over fractions no change has another number of turns.
TURN_NUMBERS = (1, 2, 3, 4, 6)


def turns(change):
    """The least number of times, one or more, after which all points are left; None where there is none."""
    check_change(change)
    for times in TURN_NUMBERS:
        if power(change, times) == STILL:
            return times
    return None


def whole_root(number):
    """The greatest number whose square is not above a number that isn't below nought."""
    root = number
    nearer = (root + 1) // 2
    while nearer < root:
        root = nearer
        nearer = (root + number // root) // 2
    return root


def kept_with_far(change):
    """The points left by a change that leaves the far point, but not all."""
    slope = change[3] - change[0]
    if slope == 0:
        return [FAR]
    return [FAR, lowest_point(change[1], slope)]


def kept_without_far(change):
    """The points left by a change that leads the far point elsewhere."""
    # x by y is left where c*x*x + (d - a)*x*y - b*y*y is nought: a whole root tells whether a fraction fits.
    middle = change[0] - change[3]
    square = middle * middle + 4 * change[1] * change[2]
    if square < 0:
        return []
    root = whole_root(square)
    if root * root != square:
        return []
    bottom = 2 * change[2]
    if root == 0:
        return [lowest_point(middle, bottom)]
    return [lowest_point(middle - root, bottom), lowest_point(middle + root, bottom)]


def kept(change):
    """The points that the change leaves, rising by top and then by bottom; None where it leaves all."""
    check_change(change)
    if change == STILL:
        return None
    if change[2] == 0:
        return sorted(kept_with_far(change))
    return sorted(kept_without_far(change))


def first_turn(change):
    """A change of two turns that, with the change done behind it, has two turns again."""
    # A change has two turns just where its first and fourth numbers add up to nought.
    # Each choice here does so, both by itself and joined with the change.
    slope = change[3] - change[0]
    if change[1] != 0:
        return lowest_change((change[1], 0, slope, -change[1]))
    if change[2] != 0:
        return lowest_change((change[2], slope, 0, -change[2]))
    return (0, 1, 1, 0)


def two_turns(change):
    """Two changes of two turns each; the one and then the other are the change."""
    check_change(change)
    one = first_turn(change)
    # Done twice, the one leaves all: so the one, the one again and the change are the change.
    return (one, after(one, change))
