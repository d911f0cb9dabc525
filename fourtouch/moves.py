"""Fours laid elsewhere: moved, turned, mirrored, imaged in the unit circle, made finer and coarser."""

from fourtouch.errors import InvalidQuestion
from fourtouch.fours import Four, Proved


def laid(circles):
    """Return the Four of circles that were made of those of a four without changing a double of two."""
    return Four(Proved(tuple(circles)))


def moved_circle(circle, s, t):
    """Return a circle moved to the right and up."""
    b, c, x, y = circle
    return (b, c + 2 * (x * s + y * t) + b * (s * s + t * t), x + b * s, y + b * t)


def turned_circle(circle, quarters):
    """Return a circle turned to the left around the origin by 0 to 3 quarters."""
    b, c, x, y = circle
    for _ in range(quarters):
        x, y = -y, x
    return (b, c, x, y)


def moved(four, s, t):
    """Return the Four that is moved by so many steps to the right and up."""
    return laid([moved_circle(circle, s, t) for circle in four.circles])


def turned(four, quarters):
    """Return the Four that is turned by quarters to the left around the origin, to the right below 0."""
    # Four quarters lead back, so a great number of them need not be made one after another.
    return laid([turned_circle(circle, quarters % 4) for circle in four.circles])


def mirrored(four):
    """Return the Four with left and right exchanged."""
    return laid([(b, c, -x, y) for b, c, x, y in four.circles])


def flipped(four, flip):
    """Return the Four that is mirrored if the flip is 1, and the four itself if it is 0."""
    if flip not in (0, 1):
        raise InvalidQuestion("a flip is 0 or 1")
    return mirrored(four) if flip == 1 else four


def put(four, way):
    """Return the Four that is put by a way."""
    flip, quarters, s, t = way
    return moved(turned(flipped(four, flip), quarters), s, t)


def imaged(four):
    """Return the image of a four in the unit circle."""
    return laid([(c, b, x, y) for b, c, x, y in four.circles])


def finer(four, factor):
    """Return the Four with all radii and distances from the origin divided by a factor."""
    if factor < 1:
        raise InvalidQuestion("a factor is not below 1")
    if any([circle[1] % factor != 0 for circle in four.circles]):
        raise InvalidQuestion("an integer cannot be divided by the factor")
    return laid([(b * factor, c // factor, x, y) for b, c, x, y in four.circles])


def coarser(four, factor):
    """Return the Four with all radii and distances from the origin multiplied by a factor."""
    # The image exchanges the two integers that are multiplied and divided.
    return imaged(finer(imaged(four), factor))


def steps_to(four, other):
    """Return the steps to the right and up by which a four is moved upon another one, or None."""
    # No more than two circles of a four are lines, and one that is none tells the steps.
    at = [circle[0] != 0 for circle in four.circles].index(True)
    b, _, x, y = four.circles[at]
    _, _, z, w = other.circles[at]
    s, t = (z - x) // b, (w - y) // b
    # Steps that were rounded lead elsewhere.
    if moved(four, s, t).circles != other.circles:
        return None
    return (s, t)


def way_between(four, other):
    """Return the first way by which a four is put upon another one, or None."""
    for flip in (0, 1):
        for quarters in (0, 1, 2, 3):
            steps = steps_to(turned(flipped(four, flip), quarters), other)
            if steps is not None:
                return (flip, quarters) + steps
    return None
