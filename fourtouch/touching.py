"""The circles that touch one circle of a four, told by coprime pairs."""

from math import gcd, isqrt

from fourtouch.addresses import whole_coordinates
from fourtouch.errors import InvalidQuestion
from fourtouch.fours import Four, check_number

MOST_PART = 10 ** 30


def check_pair(pair):
    """Raise InvalidQuestion for what is no pair."""
    if not isinstance(pair, (tuple, list)) or len(pair) != 2:
        raise InvalidQuestion("a pair has two parts")
    if max(abs(pair[0]), abs(pair[1])) > MOST_PART:
        raise InvalidQuestion("a part of a pair is beyond the bounds")
    if gcd(pair[0], pair[1]) != 1:
        raise InvalidQuestion("the parts of a pair are coprime")


def check_pairs(one, other):
    """Raise InvalidQuestion if one of two is no pair."""
    check_pair(one)
    check_pair(other)


def determinant(one, other):
    """Return what is 1 or -1 exactly if two pairs are neighbours."""
    return one[0] * other[1] - one[1] * other[0]


def pair_sum(one, other, times):
    """Return a pair with so many times another one added, part by part."""
    return (one[0] + times * other[0], one[1] + times * other[1])


def negative(pair):
    """Return the negative of a pair."""
    return (-pair[0], -pair[1])


def as_told(pair):
    """Return the one of a pair and its negative that is told."""
    p, q = pair
    if p < 0 or (p == 0 and q < 0):
        return negative(pair)
    return (p, q)


def with_first(row, number):
    """Return the list of the one of four parts that has a number, and the others in their order."""
    others = list(row)
    first = others.pop(number - 1)
    return [first] + others


def form_around(row, number):
    """Return the form of four parts around the one with a number."""
    v, u1, u2, u3 = with_first(row, number)
    return (v + u1, u3 - v - u1 - u2, v + u2)


def worth(form, pair):
    """Return the number that a form makes of a pair."""
    p, q = pair
    return form[0] * p * p + form[1] * p * q + form[2] * q * q


def part_by(row, number, pair):
    """Return the part that a pair tells around the one of four parts that has a number."""
    return worth(form_around(row, number), pair) - row[number - 1]


def made_by(four, number, pair):
    """Return the circle that what is known to be a pair tells around a circle of a four."""
    return tuple([part_by(column, number, pair) for column in zip(*four.circles)])


def circle_by(four, number, pair):
    """Return the circle that a pair tells around the circle with a number."""
    check_number(number)
    check_pair(pair)
    return made_by(four, number, pair)


def root_or_none(number):
    """Return the square root of an integer, or None if it has none that is an integer."""
    if number < 0 or isqrt(number) * isqrt(number) != number:
        return None
    return isqrt(number)


def pair_of(four, number, circle):
    """Return the pair of a circle of the heap that touches the circle with a number, or None."""
    check_number(number)
    parts = whole_coordinates(four, circle)
    if parts is None:
        return None
    k, k1, k2, k3 = with_first(parts, number)
    p = root_or_none(k1 + k3)
    q = root_or_none(k2 + k3)
    if p is None or q is None:
        return None
    if k3 < 0:
        q = -q
    # The squares and the product leave k open, and a pair with a common divisor is none.
    if p * q != k3 or k != p * p - p * q + q * q - 1 or gcd(p, q) != 1:
        return None
    return (p, q)


def form_of(four, number):
    """Return the form around the circle with a number."""
    check_number(number)
    return form_around(four.curvatures(), number)


def curvature_by(four, number, pair):
    """Return the curvature of the circle that a pair tells around the circle with a number."""
    check_number(number)
    check_pair(pair)
    return part_by(four.curvatures(), number, pair)


def are_neighbours(one, other):
    """Tell whether two pairs are neighbours."""
    check_pairs(one, other)
    return abs(determinant(one, other)) == 1


def check_neighbours(one, other):
    """Raise InvalidQuestion unless two pairs are neighbours."""
    if not are_neighbours(one, other):
        raise InvalidQuestion("the two pairs are no neighbours")


def four_by(four, number, one, other):
    """Return the Four of a circle, those that two neighbours tell, and the one that their sum tells."""
    check_number(number)
    check_neighbours(one, other)
    pairs = [one, other, pair_sum(one, other, 1)]
    return Four([four.circle(number)] + [made_by(four, number, pair) for pair in pairs])


def common_neighbours(one, other):
    """Return the two pairs that are neighbours of both of two neighbours, ascending."""
    check_neighbours(one, other)
    return sorted([as_told(pair_sum(one, other, 1)), as_told(pair_sum(one, other, -1))])
