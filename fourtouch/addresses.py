"""Addresses: where in a heap a circle stands, read off its four coordinates."""

from fourtouch.circles import check_circle, double_of, fraction
from fourtouch.errors import NotThere
from fourtouch.words import check_word


def eighths(four, circle):
    """Return the list of eight times the coordinates of a circle in a four, which are integers."""
    check_circle(circle)
    doubles = [double_of(circle, own) for own in four.circles]
    total = sum(doubles)
    return [2 * number - total for number in doubles]


def coordinates(four, circle):
    """Return the coordinates of a circle in a four, as fractions."""
    return tuple([fraction(number, 8) for number in eighths(four, circle)])


def whole_coordinates(four, circle):
    """Return the list of the coordinates of a circle, or None if they are not integers."""
    parts = eighths(four, circle)
    if any([part % 8 != 0 for part in parts]):
        return None
    return [part // 8 for part in parts]


def number_below(parts):
    """Return the number of the only coordinate below 0 if the sum is above 1, otherwise None."""
    least = min(parts)
    if least >= 0 or sum(parts) <= 1:
        return None
    if len([part for part in parts if part < 0]) > 1:
        return None
    return parts.index(least) + 1


def is_own(parts):
    """Tell whether coordinates are those of a circle of the four itself."""
    return sorted(parts) == [0, 0, 0, 1]


def exchanged_parts(parts, number):
    """Return the list of the coordinates behind exchanging the four at a number."""
    old = parts[number - 1]
    behind = [part + 2 * old for part in parts]
    behind[number - 1] = -old
    return behind


def led(parts):
    """Return the word on which a circle is led towards the four, and its coordinates at the end."""
    word = []
    number = number_below(parts)
    while number is not None:
        word.append(number)
        parts = exchanged_parts(parts, number)
        number = number_below(parts)
    return (tuple(word), parts)


def place_or_step(four, circle):
    """Return the word on which a circle is led, and its number at the end, or None if it falls out there."""
    parts = whole_coordinates(four, circle)
    if parts is None:
        return ((), None)
    word, last = led(parts)
    if not is_own(last):
        return (word, None)
    return (word, last.index(1) + 1)


def address_of(four, circle):
    """Return the address of a circle and its number in the four at the address."""
    word, number = place_or_step(four, circle)
    if number is None:
        raise NotThere(len(word))
    return (word, number)


def is_there(four, circle):
    """Tell whether a circle belongs to the heap of a four."""
    return place_or_step(four, circle)[1] is not None


def same_heap(one, other):
    """Tell whether two fours belong to one heap, in their places."""
    return all([is_there(one, circle) for circle in other.circles])


def word_between(one, other):
    """Return the reduced word from the first four to the circles of the second one, or None."""
    places = [place_or_step(one, circle) for circle in other.circles]
    if any([place[1] is None for place in places]):
        return None
    # The circle with the longest address is made last: the four that has just made it is the one.
    return max([place[0] for place in places], key=len)


def absence(four, circle):
    """Return the word behind which a circle falls out, or None if it belongs to the heap."""
    word, number = place_or_step(four, circle)
    if number is not None:
        return None
    return word


def check_absence(four, circle, word):
    """Tell whether a word shows that a circle does not belong to the heap of a four."""
    parts = whole_coordinates(four, circle)
    check_word(word)
    if parts is None:
        return len(word) == 0
    for number in word:
        if number_below(parts) != number:
            return False
        parts = exchanged_parts(parts, number)
    return number_below(parts) is None and not is_own(parts)
