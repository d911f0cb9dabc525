"""Which curvatures stand in a heap, how often, and which are missing."""

from math import gcd

from fourtouch.errors import InvalidQuestion, TooMany
from fourtouch.matrices import check_modulus
from fourtouch.remainders import taken
from fourtouch.roots import led_down
from fourtouch.walks import check_quadruple, exchanged_numbers


def root_quadruple(curvatures):
    """Return the curvatures of the root of four curvatures, each in its place."""
    check_quadruple(curvatures)
    return led_down(tuple(curvatures))[1]


def common_divisor(curvatures):
    """Return the greatest common divisor of four curvatures."""
    check_quadruple(curvatures)
    divisor = 0
    for number in curvatures:
        divisor = gcd(divisor, number)
    return divisor


def check_bound(root, most):
    """Raise InvalidQuestion for the root of a strip and for a bound below 1."""
    if min(root) >= 0:
        raise InvalidQuestion("in a strip endlessly many circles have one curvature")
    if most < 1:
        raise InvalidQuestion("a bound is not below 1")


def made_up_to(numbers, last, most):
    """Return the curvatures up to a bound that one more exchange makes, each with its four and number."""
    made = []
    for number in (1, 2, 3, 4):
        if number != last:
            behind = exchanged_numbers(numbers, number)
            if behind[number - 1] <= most:
                made.append((behind[number - 1], behind, number))
    return made


def made_from(root, most, limit):
    """Return the list of the curvatures up to a bound of all circles of a heap beside those of its root."""
    found = []
    waiting = [(root, 0)]
    while waiting and len(found) <= limit:
        numbers, last = waiting.pop()
        for curvature, behind, number in made_up_to(numbers, last, most):
            found.append(curvature)
            waiting.append((behind, number))
    if len(found) > limit:
        raise TooMany(limit)
    return found


def standing(curvatures, most, *, limit=20000):
    """Return the curvatures of a heap up to a bound, each with the number of its circles, ascending."""
    root = root_quadruple(curvatures)
    check_bound(root, most)
    counts = {}
    for curvature in made_from(root, most, limit) + [number for number in root if number <= most]:
        counts[curvature] = counts.get(curvature, 0) + 1
    return sorted(counts.items())


def missing(curvatures, most, *, limit=20000):
    """Return the ascending list of the numbers from 1 to a bound that no circle of a heap has."""
    rows = standing(curvatures, most, limit=limit)
    known = set([row[0] for row in rows])
    return [number for number in range(1, most + 1) if number not in known]


def missing_though_taken(curvatures, modulus, most, *, limit=20000):
    """Return the ascending list of the missing numbers whose remainder is taken."""
    check_quadruple(curvatures)
    check_modulus(modulus)
    numbers = missing(curvatures, most, limit=limit)
    remainders = taken(curvatures, modulus, limit=limit)
    known = set(remainders)
    return [number for number in numbers if number % modulus in known]


def least_missing(curvatures, modulus, most, *, limit=20000):
    """Return the first missing number whose remainder is taken, or None."""
    numbers = missing_though_taken(curvatures, modulus, most, limit=limit)
    if not numbers:
        return None
    return numbers[0]
