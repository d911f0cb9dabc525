"""The written form of fours, and of the integers and circles in it."""

from fourtouch.errors import InvalidNotation
from fourtouch.fours import Four

MOST_DIGITS = 200
BLOCK_DIGITS = 64
BLOCK = 10 ** 64


def digits_text(number):
    """Return the digits of an integer from 0 on.

    They are written by blocks, because Python itself refuses to write more
    than some thousand digits at once.
    """
    blocks = []
    while number >= BLOCK:
        number, block = divmod(number, BLOCK)
        blocks.append(str(block).zfill(BLOCK_DIGITS))
    blocks.append(str(number))
    return "".join(reversed(blocks))


def integer_text(number):
    """Return the written form of an integer."""
    if number < 0:
        return "-" + digits_text(-number)
    return digits_text(number)


def circle_text(circle):
    """Return the line that writes a circle."""
    return " ".join(["circle"] + [integer_text(part) for part in circle])


def format_four(four):
    """Return the written form of a four."""
    return "\n".join(["four"] + [circle_text(circle) for circle in four.circles])


def is_integer(word):
    """Tell whether a word writes an integer that can be read."""
    if word == "0":
        return True
    digits = word.removeprefix("-")
    if not (digits.isascii() and digits.isdigit()):
        return False
    return len(digits) <= MOST_DIGITS and not digits.startswith("0")


def read_circle(line):
    """Return the four integers of the line of a circle, or None if it has another form."""
    words = line.split(" ")
    if len(words) != 5 or words[0] != "circle":
        return None
    if not all([is_integer(word) for word in words[1:]]):
        return None
    return tuple([int(word) for word in words[1:]])


def read_circles(text, first):
    """Return the list of the integers of all circles of a text behind its first line."""
    lines = text.split("\n")
    if lines[0] != first:
        raise InvalidNotation(1)
    circles = []
    for at, line in enumerate(lines[1:], start=2):
        circle = read_circle(line)
        if circle is None:
            raise InvalidNotation(at)
        circles.append(circle)
    return circles


def parse_four(text):
    """Return the Four that a text writes."""
    return Four(read_circles(text, "four"))
