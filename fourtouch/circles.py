"""Circles and lines of four integers `(b, c, x, y)`, and how two of them lie."""

from math import gcd

from fourtouch.errors import InvalidCircle, InvalidQuestion


def is_circle(circle):
    """Tell whether some integers are a circle."""
    if len(circle) != 4:
        return False
    b, c, x, y = circle
    return x * x + y * y - b * c == 1


def check_circle(circle):
    """Raise InvalidCircle for what is no circle."""
    if not is_circle(circle):
        raise InvalidCircle("no circle")


def check_two(one, other):
    """Raise InvalidCircle if one of two is no circle."""
    check_circle(one)
    check_circle(other)


def is_line(circle):
    """Tell whether a circle is a line."""
    check_circle(circle)
    return circle[0] == 0


def opposite(circle):
    """Return the circle with its inside and its outside exchanged."""
    check_circle(circle)
    return tuple([-part for part in circle])


def double_of(one, other):
    """Return the double of what is known to be two circles."""
    b, c, x, y = one
    d, e, z, w = other
    return 2 * (x * z + y * w) - (b * e + d * c)


def are_outward(one, other):
    """Tell whether two circles point outward."""
    curvature = one[0] + other[0]
    return curvature > 0 or (curvature == 0 and one[1] + other[1] > 0)


def are_touching(one, other):
    """Tell whether what is known to be two circles touch."""
    return double_of(one, other) == -2 and are_outward(one, other)


def double(one, other):
    """Return the double of two circles."""
    check_two(one, other)
    return double_of(one, other)


def touch(one, other):
    """Tell whether two circles touch."""
    check_two(one, other)
    return are_touching(one, other)


def relation(one, other):
    """Return the word that tells how two circles lie to one another."""
    check_two(one, other)
    if tuple(one) == tuple(other):
        return "same"
    if opposite(one) == tuple(other):
        return "opposite"
    number = double_of(one, other)
    if number == -2:
        return "touch" if are_outward(one, other) else "touch around"
    if number < -2:
        return "apart" if are_outward(one, other) else "around"
    if number == 2:
        return "touch inside"
    return "nested" if number > 2 else "cross"


def fraction(number, other):
    """Return the fraction of two integers in lowest terms, the second one above 0."""
    shared = gcd(number, other)
    if other < 0:
        shared = -shared
    return (number // shared, other // shared)


def check_no_line(circle):
    """Raise InvalidCircle for no circle, and InvalidQuestion for a line."""
    if is_line(circle):
        raise InvalidQuestion("a line has no centre and no radius")


def centre(circle):
    """Return the two fractions of the centre of a circle that is no line."""
    check_no_line(circle)
    b, _, x, y = circle
    return (fraction(x, b), fraction(y, b))


def radius(circle):
    """Return the fraction of the radius of a circle that is no line."""
    check_no_line(circle)
    return fraction(1, abs(circle[0]))


def check_point(point):
    """Raise InvalidQuestion unless the second integers of both fractions are above 0."""
    for part in point:
        if part[1] < 1:
            raise InvalidQuestion("the second integer of a fraction is not above 0")


def value_at(circle, point):
    """Return a number that is below 0 inside of a circle, 0 on it, and above 0 outside.

    It is the one by which the sides of a circle are defined, times a square that
    depends on the point alone, so that it is an integer.
    """
    b, c, x, y = circle
    (p, under_p), (q, under_q) = point
    p = p * under_q
    q = q * under_p
    under = under_p * under_q
    return b * (p * p + q * q) - 2 * (x * p + y * q) * under + c * under * under


def side(circle, point):
    """Return 1 for a point inside of a circle, 0 for one on it, and -1 for one outside."""
    check_circle(circle)
    check_point(point)
    value = value_at(circle, point)
    if value == 0:
        return 0
    return 1 if value < 0 else -1
