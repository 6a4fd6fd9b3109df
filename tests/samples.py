"""What several tests share: small points and changes, found here without the program's help."""

from fractions import Fraction
from itertools import product
from math import gcd

FAR = (1, 0)
STILL = (1, 0, 0, 1)

# Thirty figures each.
LONG_A = 123456789012345678901234567891
LONG_B = 987654321098765432109876543211
LONG_C = 555555555555555555555555555557
LONG_D = 100000000000000000000000000057


def point_by_words(point):
    """Promise [2] word by word."""
    top, bottom = point
    if point == (1, 0):
        return True
    return bottom > 0 and gcd(top, bottom) == 1


def change_by_words(change):
    """Promise [3] word by word."""
    a, b, c, d = change
    if a * d == b * c or gcd(a, b, c, d) != 1:
        return False
    return [number for number in change if number != 0][0] > 0


def pairs(reach):
    return list(product(range(-reach, reach + 1), repeat=2))


def fours(reach):
    return list(product(range(-reach, reach + 1), repeat=4))


POINTS = [pair for pair in pairs(4) if point_by_words(pair)]
NO_POINTS = [pair for pair in pairs(3) if not point_by_words(pair)]
CHANGES = [four for four in fours(2) if change_by_words(four)]
FEW_CHANGES = CHANGES[::7] + [STILL, (0, 1, 1, 0), (0, 1, -1, 0), (1, 0, 0, -1), (3, -5, 7, 2)]
NO_CHANGES = [four for four in fours(1) if not change_by_words(four)] + [
    (2, 0, 0, 2),
    (-1, 0, 0, -1),
    (0, -1, 1, 0),
    (2, 4, 6, 8),
    (1, 2, 2, 4),
]


def led(change, point):
    """Where [3] leads the point, by Python's own fractions."""
    a, b, c, d = change
    top = a * point[0] + b * point[1]
    bottom = c * point[0] + d * point[1]
    if bottom == 0:
        return FAR
    fraction = Fraction(top, bottom)
    return (fraction.numerator, fraction.denominator)
