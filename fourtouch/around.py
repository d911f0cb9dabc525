"""How small the circles around one circle are, and the shortest chains of pairs."""

from fourtouch.errors import InvalidQuestion, TooMany
from fourtouch.touching import as_told, check_pair, check_pairs, determinant, form_of, negative, pair_sum


def round_form(four, number):
    """Return the form around the circle with a number; raise InvalidQuestion around a line."""
    form = form_of(four, number)
    if four.circle(number)[0] == 0:
        raise InvalidQuestion("endlessly many circles that touch a line have the same curvature")
    return form


def lowered(form):
    """Return two neighbours with their values, and the number between them, as low as can be.

    The number between them is how much their sum has above their two values;
    without its sign it is at most the first value, and that at most the other one.
    """
    low, middle, high = form
    one, other = (1, 0), (0, 1)
    while abs(middle) > low or low > high:
        if low > high:
            one, other, low, high = other, one, high, low
        else:
            # Divided, not lessened one by one: the pairs of a form may have many figures.
            times = (middle + low) // (2 * low)
            other = pair_sum(other, one, -times)
            high = high - times * middle + times * times * low
            middle = middle - 2 * times * low
    return (one, low, other, high, middle)


def values_up_to(form, most, limit):
    """Return the list of the values up to a bound that a form has, with their pairs."""
    one, low, other, high, middle = lowered(form)
    found = [row for row in [(low, one), (high, other)] if row[0] <= most]
    # A wedge is two neighbours as lowered tells them. All other pairs are made in one way by adding
    # the two of a wedge and of those that this makes, and no sum has a value below those of its parts.
    wedges = [(one, low, other, high, middle), (one, low, negative(other), high, -middle)]
    while wedges and len(found) <= limit:
        one, low, other, high, middle = wedges.pop()
        value = low + middle + high
        if value <= most:
            pair = pair_sum(one, other, 1)
            found.append((value, pair))
            wedges.append((one, low, pair, value, 2 * low + middle))
            wedges.append((pair, value, other, high, middle + 2 * high))
    if len(found) > limit:
        raise TooMany(limit)
    return found


def pairs_to(four, number, most, *, limit=2000):
    """Return the curvatures up to a bound of all circles that touch one, with their pairs, ascending."""
    form = round_form(four, number)
    own = four.circle(number)[0]
    return sorted([(value - own, as_told(pair)) for value, pair in values_up_to(form, most + own, limit)])


def least_around(four, number):
    """Return the least curvature of a circle that touches one, and the pairs with it, ascending."""
    least = lowered(round_form(four, number))[1] - four.circle(number)[0]
    # No form has its least value at more than three pairs: two neighbours and their sum.
    rows = pairs_to(four, number, least, limit=3)
    return (least, [row[1] for row in rows])


def neighbour_of(pair):
    """Return a pair that makes the determinant 1 with another one, by Euclid's division."""
    p, q = pair
    one, other = (1, 0), (0, 1)
    while q != 0:
        times = p // q
        p, q = q, p - times * q
        one, other = other, pair_sum(one, other, -times)
    # Now one[0] and one[1] times the parts of the pair make p, which is 1 or -1.
    return (-one[1] * p, one[0] * p)


def nearest(number, other):
    """Return an integer that is nearest to the fraction of two integers."""
    return (2 * number + other) // (2 * other)


def chain(one, other):
    """Return a shortest chain of pairs from one to another one."""
    check_pairs(one, other)
    here = one
    beside = neighbour_of(one)
    # The end is x times the pair here and y times the one beside it, at each place of the chain.
    x = determinant(other, beside)
    y = determinant(one, other)
    found = [as_told(here)]
    while y != 0:
        times = nearest(x, y)
        here, beside = pair_sum(beside, here, times), negative(here)
        x, y = y, times * y - x
        found.append(as_told(here))
    return found


def steps_between(one, other):
    """Return the fewest steps with which a chain leads from one pair to another one."""
    return len(chain(one, other)) - 1


def is_chain(pairs):
    """Tell whether each pair of a list is a neighbour of the one before it."""
    for pair in pairs:
        check_pair(pair)
    return all([abs(determinant(pairs[at], pairs[at + 1])) == 1 for at in range(len(pairs) - 1)])
