"""Fours, circles and curvatures at words."""

from fourtouch.errors import InvalidFour, InvalidQuestion
from fourtouch.fours import Four, Proved, exchanged_rows
from fourtouch.words import check_word


def rows_along(rows, word):
    """Return the list of the four rows at the beginning and behind each exchange of a word."""
    check_word(word)
    found = [rows]
    for number in word:
        rows = exchanged_rows(rows, number)
        found.append(rows)
    return found


def rows_at(rows, word):
    """Return the four rows behind all exchanges of a word."""
    check_word(word)
    for number in word:
        rows = exchanged_rows(rows, number)
    return rows


def four_at(four, word):
    """Return the Four at a word."""
    return Four(Proved(rows_at(four.circles, word)))


def fours_along(four, word):
    """Return the list of a Four and of the Fours behind each exchange of a word."""
    behind = rows_along(four.circles, word)[1:]
    return [four] + [Four(Proved(circles)) for circles in behind]


def circles_along(four, word):
    """Return the list of the circles that the exchanges of a word make."""
    behind = rows_along(four.circles, word)[1:]
    return [circles[number - 1] for circles, number in zip(behind, word)]


def circle_at(four, word):
    """Return the circle that is made by a word."""
    circles = rows_at(four.circles, word)
    if not word:
        raise InvalidQuestion("the empty word makes no circle")
    return circles[word[-1] - 1]


def is_quadruple(curvatures):
    """Tell whether some integers can be the curvatures of a four."""
    if len(curvatures) != 4:
        return False
    total = sum(curvatures)
    return total > 0 and total * total == 2 * sum([number * number for number in curvatures])


def check_quadruple(curvatures):
    """Raise InvalidFour for integers that can be no curvatures of a four."""
    if not is_quadruple(curvatures):
        raise InvalidFour("these integers can be no curvatures of a four")


def exchanged_numbers(numbers, number):
    """Return the tuple of four numbers, the curvatures of a four or others of its parts, behind an exchange."""
    made = 2 * sum(numbers) - 3 * numbers[number - 1]
    return numbers[:number - 1] + (made,) + numbers[number:]


def numbers_at(numbers, word):
    """Return the tuple of four numbers behind all exchanges of a word."""
    check_word(word)
    for number in word:
        numbers = exchanged_numbers(numbers, number)
    return numbers


def curvatures_at(curvatures, word):
    """Return the tuple of the curvatures of the four at a word."""
    check_quadruple(curvatures)
    return numbers_at(tuple(curvatures), word)


def curvatures_along(curvatures, word):
    """Return the list of the curvatures at the beginning and behind each exchange of a word."""
    check_quadruple(curvatures)
    check_word(word)
    found = [tuple(curvatures)]
    for number in word:
        found.append(exchanged_numbers(found[-1], number))
    return found
