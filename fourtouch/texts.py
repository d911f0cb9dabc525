"""The written forms of words, of lists of circles, of papers about heaps, and of places."""

from fourtouch.addresses import check_absence, place_or_step
from fourtouch.circles import check_circle
from fourtouch.commands import word_of
from fourtouch.errors import InvalidNotation, InvalidPaper
from fourtouch.notation import circle_text, read_circles
from fourtouch.roots import check_heap_paper, heap_paper
from fourtouch.walks import four_at
from fourtouch.words import check_word


def numbers_line(first, numbers):
    """Return the line of a first word with some numbers behind it."""
    return " ".join([first] + [str(number) for number in numbers])


def read_numbers(line, first):
    """Return the numbers from 1 to 4 behind the first word of a line, or None if it has another form."""
    words = line.split(" ")
    if words[0] != first:
        return None
    return word_of(words[1:])


def word_text(word):
    """Return the written form of a word."""
    check_word(word)
    return numbers_line("word", word)


def circles_text(circles):
    """Return the written form of a list of circles."""
    for circle in circles:
        check_circle(circle)
    return "\n".join(["circles"] + [circle_text(circle) for circle in circles])


def parse_word(text):
    """Return the word that a text writes."""
    lines = text.split("\n")
    word = read_numbers(lines[0], "word")
    if word is None:
        raise InvalidNotation(1)
    if len(lines) > 1:
        raise InvalidNotation(2)
    return word


def parse_circles(text):
    """Return the list of the circles that a text writes."""
    circles = read_circles(text, "circles")
    for circle in circles:
        check_circle(circle)
    return circles


def heap_text(one, other):
    """Return the written form of the paper about the heaps of two fours."""
    word, way, other_way = heap_paper(one, other)
    return "\n".join([word, numbers_line("way", way), numbers_line("way", other_way)])


def parse_heap(text):
    """Return the paper about the heaps of two fours that a text writes."""
    word, *lines = text.split("\n")
    if word not in ("alike", "unlike"):
        raise InvalidPaper(1)
    ways = []
    for at, line in enumerate(lines[:2], start=2):
        way = read_numbers(line, "way")
        if way is None:
            raise InvalidPaper(at)
        ways.append(way)
    # The line that is told is the first one that is left out, or the one behind the last way.
    if len(lines) != 2:
        raise InvalidPaper(len(ways) + 2)
    return (word, ways[0], ways[1])


def check_heap_text(one, other, text):
    """Tell whether a text is a right paper about the heaps of two fours."""
    return check_heap_paper(one, other, parse_heap(text))


def place_text(four, circle):
    """Return the text that tells where in the heap of a four a circle is, or that it is absent."""
    word, number = place_or_step(four, circle)
    if number is None:
        return numbers_line("absent", word)
    return numbers_line("there", (number,) + word)


def check_place_text(four, circle, text):
    """Tell whether a text about the place of a circle is right."""
    check_circle(circle)
    word = read_numbers(text, "absent")
    if word is not None:
        return check_absence(four, circle, word)
    numbers = read_numbers(text, "there")
    if not numbers:
        raise InvalidPaper(1)
    return four_at(four, numbers[1:]).circle(numbers[0]) == tuple(circle)
