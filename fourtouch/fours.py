"""Fours: four circles of which each two touch."""

from fourtouch.circles import are_touching, check_circle
from fourtouch.errors import InvalidFour, InvalidQuestion


def check_number(number):
    """Raise InvalidQuestion for an integer that is no number of a circle of a four."""
    if number not in (1, 2, 3, 4):
        raise InvalidQuestion("the circles of a four have the numbers 1 to 4")


def made_row(rows, number):
    """Return the row that an exchange puts in the place of one of four rows.

    It is, part by part, twice the sum of the three others less the old one.
    """
    return tuple([2 * sum(parts) - 3 * parts[number - 1] for parts in zip(*rows)])


def exchanged_rows(rows, number):
    """Return the tuple of four rows behind an exchange."""
    return rows[:number - 1] + (made_row(rows, number),) + rows[number:]


def check_touching(circles):
    """Raise InvalidFour if two of some circles do not touch."""
    for at, circle in enumerate(circles):
        for other in circles[:at]:
            if not are_touching(other, circle):
                raise InvalidFour("two circles of a four do not touch")


class Proved:
    """Four circles that are known to be a four.

    What is made of a four by a step that keeps it one is handed to Four in this
    form, so that great integers are not multiplied again at every step.
    """

    def __init__(self, circles):
        self.circles = circles


class Four:
    """Four circles in an order, each two of which touch; it does not change."""

    def __init__(self, circles):
        if isinstance(circles, Proved):
            self.circles = circles.circles
        else:
            if len(circles) != 4:
                raise InvalidFour("a four has four circles")
            for circle in circles:
                check_circle(circle)
            check_touching(circles)
            self.circles = tuple([tuple(circle) for circle in circles])

    def curvatures(self):
        """Return the tuple of the curvatures, in order."""
        return tuple([circle[0] for circle in self.circles])

    def circle(self, number):
        """Return the circle with this number."""
        check_number(number)
        return self.circles[number - 1]

    def number_of(self, circle):
        """Return the number of a circle, or None if it is none of the four."""
        check_circle(circle)
        wanted = tuple(circle)
        if wanted not in self.circles:
            return None
        return self.circles.index(wanted) + 1

    def other(self, number):
        """Return the other circle that touches the three without this number."""
        check_number(number)
        return made_row(self.circles, number)

    def exchanged(self, number):
        """Return the Four that is exchanged at this number."""
        check_number(number)
        return Four(Proved(exchanged_rows(self.circles, number)))

    def is_root(self):
        """Tell whether the greatest curvature is at most the sum of the three others."""
        curvatures = self.curvatures()
        return 2 * max(curvatures) <= sum(curvatures)

    def is_strip(self):
        """Tell whether two of the circles are lines."""
        return self.curvatures().count(0) == 2

    def with_order(self, order):
        """Return the Four with its circles in the order of four numbers."""
        if sorted(order) != [1, 2, 3, 4]:
            raise InvalidQuestion("an order has the numbers 1 to 4, each once")
        return Four(Proved(tuple([self.circles[number - 1] for number in order])))

    def ordered(self):
        """Return the Four with its circles in ascending order."""
        return Four(Proved(tuple(sorted(self.circles))))

    def has_same(self, other):
        """Tell whether another Four has the same circles, in whatever order."""
        return sorted(self.circles) == sorted(other.circles)
