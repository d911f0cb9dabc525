"""Which remainders the curvatures of a heap take, and lists and words that show it."""

from fourtouch.errors import InvalidQuestion, TooMany
from fourtouch.matrices import check_modulus
from fourtouch.walks import check_quadruple, exchanged_numbers
from fourtouch.words import check_word

PLACES = (1, 2, 3, 4)


def check_start(curvatures, modulus):
    """Raise InvalidFour for no curvatures of a four, and InvalidQuestion for no modulus."""
    check_quadruple(curvatures)
    check_modulus(modulus)


def check_remainder(curvatures, modulus, remainder):
    """Raise what check_start does, and InvalidQuestion for what is no remainder."""
    check_start(curvatures, modulus)
    if not 0 <= remainder < modulus:
        raise InvalidQuestion("a remainder is from 0 on and below its modulus")


def remainders_of(numbers, modulus):
    """Return the tuple of the remainders of some numbers."""
    return tuple([number % modulus for number in numbers])


def led_to(row, number, modulus):
    """Return the remainders to which an exchange leads."""
    return remainders_of(exchanged_numbers(row, number), modulus)


def reached(curvatures, modulus, limit):
    """Return a dict of the remainders of all fours of a heap.

    They stand in the order of the first shortest words that lead to them, each with
    the remainders ahead of the last exchange of this word and with its number.
    """
    start = remainders_of(curvatures, modulus)
    found = {start: None}
    rows = [start]
    while rows and len(found) <= limit:
        behind = []
        for row in rows:
            for number in PLACES:
                made = led_to(row, number, modulus)
                if made not in found:
                    found[made] = (row, number)
                    behind.append(made)
        rows = behind
    if len(found) > limit:
        raise TooMany(limit)
    return found


def word_to(found, row):
    """Return the first shortest word that leads to some remainders that are reached."""
    word = []
    step = found[row]
    while step is not None:
        before, number = step
        word.append(number)
        step = found[before]
    return tuple(word)[::-1]


def closed_list(curvatures, modulus, *, limit=20000):
    """Return the ascending list of the remainders of all fours of a heap."""
    check_start(curvatures, modulus)
    return sorted(reached(curvatures, modulus, limit))


def are_remainders(row, modulus):
    """Tell whether a row has four remainders."""
    return len(row) == 4 and all([0 <= number < modulus for number in row])


def is_closed(start, modulus, rows):
    """Tell whether rows, tuples, have some remainders and, with each row, those that exchanges lead to."""
    known = set(rows)
    if start not in known or not all([are_remainders(row, modulus) for row in rows]):
        return False
    return all([led_to(row, number, modulus) in known for row in rows for number in PLACES])


def check_closed(curvatures, modulus, told):
    """Tell whether a list is closed for a heap."""
    check_start(curvatures, modulus)
    return is_closed(remainders_of(curvatures, modulus), modulus, [tuple(row) for row in told])


def taken(curvatures, modulus, *, limit=20000):
    """Return the ascending list of the remainders that the curvatures of a heap take."""
    rows = closed_list(curvatures, modulus, limit=limit)
    return sorted(set([number for row in rows for number in row]))


def never(curvatures, modulus, *, limit=20000):
    """Return the ascending list of the remainders that the curvatures of a heap never take."""
    numbers = taken(curvatures, modulus, limit=limit)
    known = set(numbers)
    return [number for number in range(modulus) if number not in known]


def witness(curvatures, modulus, remainder, *, limit=20000):
    """Return the first shortest word at which some curvature has a remainder, or None."""
    check_remainder(curvatures, modulus, remainder)
    found = reached(curvatures, modulus, limit)
    for row in found:
        if remainder in row:
            return word_to(found, row)
    return None


def check_witness(curvatures, modulus, remainder, word):
    """Tell whether some curvature has a remainder at a word."""
    check_remainder(curvatures, modulus, remainder)
    check_word(word)
    row = remainders_of(curvatures, modulus)
    for number in word:
        row = led_to(row, number, modulus)
    return remainder in row


def shows_never(curvatures, modulus, remainder, told):
    """Tell whether a list is closed for a heap and shows that it never takes a remainder."""
    check_remainder(curvatures, modulus, remainder)
    return check_closed(curvatures, modulus, told) and not any([remainder in row for row in told])
