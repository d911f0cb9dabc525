"""Fours and words that several tests look at."""

from itertools import product

from fourtouch.fours import Four

BUGEYE = ((-1, 1, 0, 0), (2, 0, 1, 0), (2, 0, -1, 0), (3, 1, 0, 2))
STRIP = ((0, 2, -1, 0), (0, 2, 1, 0), (1, 0, 0, -1), (1, 0, 0, 1))

# Root fours; the greatest curvature is the sum of the others in some of them and below it in others.
NEGATIVE_ROOTS = (
    BUGEYE,
    ((-6, -2, -3, -2), (11, 4, 6, 3), (14, 6, 7, 6), (15, 4, 6, 5)),
    ((-4, -2, -3, 0), (8, 6, 7, 0), (9, 4, 6, -1), (9, 4, 6, 1)),
    ((-3, -1, -2, 0), (5, 3, 4, 0), (8, 2, 4, -1), (8, 2, 4, 1)),
    ((-3, -1, -2, 0), (4, 2, 3, 0), (12, 2, 5, 0), (13, 3, 6, -2)),
    ((-2, -2, -2, -1), (3, 4, 3, 2), (6, 6, 6, 1), (7, 4, 5, 2)),
)
STRIPS = (
    STRIP,
    ((0, 0, -1, 0), (0, 2, 1, 0), (2, 2, 1, -2), (2, 0, 1, 0)),
    ((0, -1, -1, 0), (0, 2, 1, 0), (4, 3, 3, -2), (4, 2, 3, 0)),
)
ROOTS = NEGATIVE_ROOTS + STRIPS

LONG_WORD = (1, 2, 3, 4, 2, 1, 3, 1, 4, 3) * 60


def bugeye():
    return Four(BUGEYE)


def strip():
    return Four(STRIP)


def all_words(length):
    """All words of a length, ascending, reduced or not."""
    return list(product((1, 2, 3, 4), repeat=length))


def all_reduced(length):
    """All reduced words of a length, ascending."""
    return [word for word in all_words(length) if all(one != other for one, other in zip(word, word[1:]))]


def words_up_to(length):
    return [word for size in range(length + 1) for word in all_words(size)]


def reduced_up_to(length):
    return [word for size in range(length + 1) for word in all_reduced(size)]


def walked(four, word):
    """The four at a word, one exchange after another."""
    for number in word:
        four = four.exchanged(number)
    return four


def error_of(action, *arguments, **named):
    """The error that a call raises, or None."""
    try:
        action(*arguments, **named)
    except Exception as error:
        return error
    return None


def laid_circle(circle, flip, quarters, s, t):
    """A circle mirrored if the flip is 1, then turned by quarters to the left, then moved."""
    b, c, x, y = circle
    if flip:
        x = -x
    for _ in range(quarters):
        x, y = -y, x
    return (b, c + 2 * (x * s + y * t) + b * (s * s + t * t), x + b * s, y + b * t)


def laid(four, flip, quarters, s, t):
    """A four laid elsewhere, its circles in their order."""
    return Four([laid_circle(circle, flip, quarters, s, t) for circle in four.circles])


def heap_circles(four, length):
    """The circles of a heap with addresses up to a length: a dict of (address, number)."""
    found = {circle: ((), at) for at, circle in enumerate(four.circles, start=1)}
    for word in reduced_up_to(length)[1:]:
        found[walked(four, word).circle(word[-1])] = (word, word[-1])
    return found


def great_root(n):
    """A root four with the curvatures -n, n + 1, n * n + n and n * n + n + 1, for n from 2 on."""
    return Four([
        (-n, 2 - n, 1 - n, 0), (n + 1, n - 1, n, 0), (n * n + n, n * n - 3 * n + 2, n * n - n - 1, 0),
        (n * n + n + 1, n * n - 3 * n + 3, n * n - n, 2),
    ])
