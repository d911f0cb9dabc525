"""Lists of the circles of a heap, from the great ones to the small ones."""

from heapq import heapify, heappop, heappush

from fourtouch.circles import are_touching, check_circle
from fourtouch.errors import InvalidQuestion, TooMany
from fourtouch.fours import exchanged_rows
from fourtouch.roots import root_of


def round_root(four):
    """Return the root of a four; raise InvalidQuestion if it is a strip."""
    root = root_of(four)
    if root.is_strip():
        raise InvalidQuestion("a heap between two lines has no end of circles up to a curvature")
    return root


def made_behind(circles, last):
    """Return the list of the circles that one more exchange makes, each with its four and number."""
    made = []
    for number in (1, 2, 3, 4):
        if number != last:
            behind = exchanged_rows(circles, number)
            made.append((behind[number - 1], behind, number))
    return made


def ascending(root):
    """Yield the circles of the heap of a root, in ascending order and without end.

    Along a reduced word no circle has a curvature below those of its four, so
    what is made behind a circle never stands ahead of it; only the greatest
    circle of a root may be exchanged for one of the same curvature, and what
    the root makes is there from the beginning.
    """
    waiting = [(circle, (), 0) for circle in root.circles] + made_behind(root.circles, 0)
    heapify(waiting)
    while True:
        circle, circles, number = heappop(waiting)
        yield circle
        if circles:
            for row in made_behind(circles, number):
                heappush(waiting, row)


def circles_up_to(four, most, *, limit=2000):
    """Return the circles of a heap with a curvature up to a bound, ascending."""
    root = round_root(four)
    found = []
    for circle in ascending(root):
        if circle[0] > most:
            break
        found.append(circle)
        if len(found) > limit:
            raise TooMany(limit)
    return found


def curvatures_up_to(four, most, *, limit=2000):
    """Return the curvatures of a heap up to a bound, each with the number of its circles, ascending."""
    counts = {}
    for circle in circles_up_to(four, most, limit=limit):
        counts[circle[0]] = counts.get(circle[0], 0) + 1
    return list(counts.items())


def circles_of(four, curvature, *, limit=2000):
    """Return the circles of a heap with a curvature, ascending."""
    return [circle for circle in circles_up_to(four, curvature, limit=limit) if circle[0] == curvature]


def curvature_behind(four, curvature, *, limit=2000):
    """Return the least curvature of a heap that is greater than a number."""
    root = round_root(four)
    count = 0
    for circle in ascending(root):
        if circle[0] > curvature:
            return circle[0]
        count += 1
        if count > limit:
            raise TooMany(limit)


def first_circles(four, many, *, limit=2000):
    """Return so many circles of a heap, the first ones in ascending order."""
    root = round_root(four)
    if many < 0:
        raise InvalidQuestion("a number of circles is not below 0")
    if many > limit:
        raise TooMany(limit)
    found = []
    for circle in ascending(root):
        if len(found) == many:
            break
        found.append(circle)
    return found


def neighbours_of(four, circle, most, *, limit=2000):
    """Return the circles of a heap up to a curvature that touch a circle, ascending."""
    check_circle(circle)
    return [other for other in circles_up_to(four, most, limit=limit) if are_touching(other, circle)]


def covers(four, circles, *, limit=2000):
    """Tell whether a list holds each circle of a heap up to its greatest curvature just once."""
    for circle in circles:
        check_circle(circle)
    if not circles:
        return False
    told = sorted([tuple(circle) for circle in circles])
    return told == circles_up_to(four, told[-1][0], limit=limit)
