"""The points at which circles touch, and in which circle or gap of a heap a point lies."""

from fourtouch.circles import are_touching, check_point, check_two, fraction, value_at
from fourtouch.errors import InvalidQuestion, TooMany
from fourtouch.fours import check_number
from fourtouch.roots import number_above
from fourtouch.walks import exchanged_numbers, numbers_at
from fourtouch.words import check_word


def meeting(one, other):
    """Return the point at which what is known to be two touching circles touch, or None for two lines."""
    b, _, x, y = [part + more for part, more in zip(one, other)]
    if one[0] == 0 and other[0] == 0:
        return None
    return (fraction(x, b), fraction(y, b))


def touching_point(one, other):
    """Return the point at which two circles touch, or None for two lines."""
    check_two(one, other)
    if not are_touching(one, other):
        raise InvalidQuestion("the two circles do not touch")
    return meeting(one, other)


def touching_points(four):
    """Return the list of the points at which each two circles of a four touch, with their numbers."""
    pairs = [(low, high) for low in (1, 2, 3, 4) for high in range(low + 1, 5)]
    return [(low, high, meeting(four.circle(low), four.circle(high))) for low, high in pairs]


def is_touching(one, other, point):
    """Tell whether two circles touch at a point."""
    check_two(one, other)
    check_point(point)
    return are_touching(one, other) and value_at(one, point) == 0 and value_at(other, point) == 0


def gap_circle(four, number):
    """Return the doubled integers of the circle around the gap opposite to the circle with a number."""
    check_number(number)
    return tuple([sum(parts) - 2 * parts[number - 1] for parts in zip(*four.circles)])


def values_at(four, point):
    """Return the values of a point at the circles of a four: below 0 inside of one, 0 on it."""
    check_point(point)
    return tuple([value_at(circle, point) for circle in four.circles])


def is_in_gap(values):
    """Tell whether a point with these values lies in none of the circles and on none."""
    return min(values) > 0


def gap_of(four, point):
    """Return the number of the circle opposite to which the gap with a point lies, or None."""
    values = values_at(four, point)
    if not is_in_gap(values):
        return None
    # Inside of a gap's circle is where its value, the sum of the four less twice the one, is below 0.
    return number_above(values)


def towards(values, steps):
    """Return the word on which one goes towards a point, at most a number of steps, and its values there.

    The values are made of the circles as their curvatures are, so they are
    exchanged without the circles.
    """
    word = []
    while len(word) < steps and is_in_gap(values):
        number = number_above(values)
        values = exchanged_numbers(values, number)
        word.append(number)
    return (tuple(word), values)


def way_of(four, point, steps):
    """Return the word on which one goes towards a point, at most a number of steps."""
    values = values_at(four, point)
    if steps < 0:
        raise InvalidQuestion("a number of steps is not below 0")
    return towards(values, steps)[0]


def place_of(four, point, *, limit=1000):
    """Return in which circle of a heap a point lies, or on which one, with the word towards it."""
    word, values = towards(values_at(four, point), limit)
    least = min(values)
    if least > 0:
        raise TooMany(limit)
    # A point is inside of one circle at most, and then on none; of two that it is on the first one is told.
    kind = "inside" if least < 0 else "on"
    return (kind, word, values.index(least) + 1)


def check_place(four, point, told):
    """Tell whether a place is right for a point."""
    kind, word, number = told
    check_word(word)
    check_number(number)
    value = numbers_at(values_at(four, point), word)[number - 1]
    if kind == "inside":
        return value < 0
    return kind == "on" and value == 0
