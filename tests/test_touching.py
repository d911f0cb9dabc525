import unittest
from itertools import permutations, product
from math import gcd

from fourtouch.addresses import is_there
from fourtouch.circles import double, is_circle, opposite, touch
from fourtouch.errors import InvalidCircle, InvalidQuestion
from fourtouch.fours import Four
from fourtouch.touching import (
    are_neighbours, circle_by, common_neighbours, curvature_by, form_of, four_by, pair_of,
)
from tests.helper import (
    BUGEYE, LONG_WORD, NEGATIVE_ROOTS, ROOTS, STRIPS, bugeye, error_of, heap_circles, laid, laid_circle, strip, walked,
)

NUMBERS = (1, 2, 3, 4)
NO_NUMBERS = (0, 5, -1, 10 ** 30)
MOST = 10 ** 30
NO_PAIRS = (
    (0, 0), (2, 4), (0, 2), (-3, 0), (0, -2), (6, 9), [5, -5], (10 ** 29, 10 ** 28),
    (MOST + 1, 1), (1, MOST + 1), (-MOST - 1, 1), (1, -MOST - 1), (MOST + 1, MOST), (10 ** 40, 10 ** 40 + 1),
    (1,), (1, 0, 0), (), [], [1], (1, 1, 1),
)
NO_CIRCLES = ((3, 1, 0, 3), (1, 1, 1, 2), (), (3, 1, 0), [3, 1, 0, 2, 0])
GREAT_PAIRS = (
    (MOST, 1), (1, MOST), (MOST, -1), (-MOST, 1), (MOST, MOST - 1), (MOST - 1, -MOST), (-1, -MOST),
    (10 ** 25 + 7, 10 ** 24 + 9), (3 * 10 ** 29 + 1, 10 ** 29),
)


def told(pair):
    return max(tuple(pair), tuple(-part for part in pair))


def small_pairs(most):
    """All pairs with parts up to a bound, as they are told."""
    found = [(0, 1)]
    for p in range(1, most + 1):
        found += [(p, q) for q in range(-most, most + 1) if gcd(p, q) == 1]
    return found


def by_formula(four, number, pair):
    """Point 43, part by part."""
    v = four.circle(number)
    u1, u2, u3 = [four.circle(other) for other in NUMBERS if other != number]
    p, q = pair
    return tuple(
        (v[at] + u1[at]) * p * p + (u3[at] - v[at] - u1[at] - u2[at]) * p * q + (v[at] + u2[at]) * q * q - v[at]
        for at in range(4)
    )


class CirclesByPairs(unittest.TestCase):
    def test_example(self):
        self.assertEqual(form_of(bugeye(), 1), (1, 0, 1))
        self.assertEqual(circle_by(bugeye(), 1, (1, -1)), (3, 1, 0, -2))
        self.assertEqual(pair_of(bugeye(), 1, (3, 1, 0, -2)), (1, -1))
        self.assertEqual(circle_by(bugeye(), 1, (2, 1)), (6, 4, 3, 4))
        self.assertIs(are_neighbours((2, 1), (1, 1)), True)

    def test_the_first_pairs(self):
        for root in ROOTS:
            four = walked(Four(root), (2, 1))
            for number in NUMBERS:
                first, second, third = [other for other in NUMBERS if other != number]
                self.assertEqual(circle_by(four, number, (1, 0)), four.circle(first))
                self.assertEqual(circle_by(four, number, (0, 1)), four.circle(second))
                self.assertEqual(circle_by(four, number, (1, 1)), four.circle(third))
                self.assertEqual(circle_by(four, number, (1, -1)), four.other(third))

    def test_small_pairs(self):
        for root in ROOTS:
            four = walked(Four(root), (4, 1))
            for number in NUMBERS:
                circles = {}
                for pair in small_pairs(4):
                    circle = circle_by(four, number, pair)
                    self.assertEqual(circle, by_formula(four, number, pair))
                    self.assertIs(circle.__class__, tuple)
                    self.assertTrue(touch(circle, four.circle(number)))
                    self.assertTrue(is_there(four, circle))
                    circles[circle] = pair
                    for kind in (tuple, list):
                        self.assertEqual(circle_by(four, number, kind(pair)), circle)
                        self.assertEqual(circle_by(four, number, kind([-pair[0], -pair[1]])), circle)
                self.assertEqual(len(circles), len(small_pairs(4)))

    def test_great_pairs(self):
        for root in ROOTS:
            four = Four(root)
            for number in NUMBERS:
                for pair in GREAT_PAIRS:
                    circle = circle_by(four, number, list(pair))
                    self.assertEqual(circle, by_formula(four, number, pair))
                    self.assertTrue(is_circle(circle))
                    self.assertTrue(touch(circle, four.circle(number)))
                    self.assertEqual(circle_by(four, number, (-pair[0], -pair[1])), circle)
                    self.assertEqual(pair_of(four, number, circle), told(pair))
                    self.assertEqual(curvature_by(four, number, pair), circle[0])

    def test_all_touching_circles_of_the_heap(self):
        for root in ROOTS:
            four = walked(Four(root), (1,))
            for number in NUMBERS:
                for circle in heap_circles(four, 4 if root == BUGEYE else 3):
                    pair = pair_of(four, number, circle)
                    if touch(circle, four.circle(number)):
                        self.assertEqual(circle_by(four, number, pair), circle)
                        self.assertEqual(pair, told(pair))
                        self.assertIs(pair.__class__, tuple)
                        self.assertEqual(pair_of(four, number, list(circle)), pair)
                    else:
                        self.assertIsNone(pair)

    def test_errors(self):
        for four in (bugeye(), strip()):
            for action in (circle_by, curvature_by):
                for number in NO_NUMBERS:
                    self.assertIs(error_of(action, four, number, (1, 0)).__class__, InvalidQuestion)
                    self.assertIs(error_of(action, four, number, (2, 0)).__class__, InvalidQuestion)
                for number, pair in product(NUMBERS, NO_PAIRS):
                    self.assertIs(error_of(action, four, number, pair).__class__, InvalidQuestion, pair)


class PairsOfCircles(unittest.TestCase):
    def test_small_pairs(self):
        for root in ROOTS:
            four = walked(Four(root), (3, 2))
            for number in NUMBERS:
                for pair in small_pairs(4):
                    self.assertEqual(pair_of(four, number, by_formula(four, number, pair)), pair)

    def test_circles_that_have_none(self):
        for root in ROOTS:
            four = walked(Four(root), (2,))
            for number in NUMBERS:
                self.assertIsNone(pair_of(four, number, four.circle(number)))
                self.assertIsNone(pair_of(four, number, opposite(four.circle(number))))
                self.assertIsNone(pair_of(four, number, four.other(number)))
                for pair in small_pairs(2):
                    self.assertIsNone(pair_of(four, number, opposite(by_formula(four, number, pair))))

    def test_pairs_that_are_not_coprime(self):
        # What the formula makes of them is no circle of the heap, and may be no circle at all.
        for root in ROOTS:
            four = Four(root)
            for number in NUMBERS:
                for pair in ((0, 0), (2, 0), (0, 3), (2, 2), (2, -4), (3, 6)):
                    circle = by_formula(four, number, pair)
                    if is_circle(circle):
                        self.assertIsNone(pair_of(four, number, circle))

    def test_circles_of_small_integers(self):
        circles = [circle for circle in product(range(-3, 6), repeat=4) if is_circle(circle)]
        for root in (BUGEYE,) + STRIPS[:2]:
            four = Four(root)
            for number in NUMBERS:
                for circle in circles:
                    expected = touch(circle, four.circle(number)) and is_there(four, circle)
                    pair = pair_of(four, number, circle)
                    self.assertIs(pair is not None, expected)
                    if expected:
                        self.assertEqual(circle_by(four, number, pair), circle)

    def test_circles_of_another_heap(self):
        # Some of them touch the circle from where no circle of its heap does.
        touching = 0
        four = bugeye()
        for way in product((0, 1), (0, 1, 2, 3), (0,), (0,)):
            for circle in heap_circles(laid(four, *way), 3):
                pair = pair_of(four, 1, circle)
                if is_there(four, circle) and touch(circle, four.circle(1)):
                    self.assertEqual(circle_by(four, 1, pair), circle)
                else:
                    touching += touch(circle, four.circle(1))
                    self.assertIsNone(pair)
        self.assertGreater(touching, 10)
        for root in NEGATIVE_ROOTS[1:]:
            for circle in heap_circles(Four(root), 1):
                moved = laid_circle(circle, 0, 0, 100, 7)
                for number in NUMBERS:
                    self.assertIsNone(pair_of(four, number, moved))
                    self.assertIsNone(pair_of(Four(root), number, moved))

    def test_other_fours_with_the_circle(self):
        for root in ROOTS:
            four = Four(root)
            other = walked(four, (2, 3, 4, 2)).with_order((3, 2, 1, 4))
            self.assertEqual(other.circle(3), four.circle(1))
            pairs = {pair_of(other, 3, circle_by(four, 1, pair)) for pair in small_pairs(4)}
            self.assertEqual(len(pairs), len(small_pairs(4)))
            self.assertNotIn(None, pairs)
            self.assertNotEqual(pairs, set(small_pairs(4)))
            for pair in small_pairs(4):
                circle = circle_by(other, 3, pair)
                self.assertEqual(circle_by(four, 1, pair_of(four, 1, circle)), circle)

    def test_errors_come_in_order(self):
        for circle in NO_CIRCLES + BUGEYE:
            for number in NO_NUMBERS:
                self.assertIs(error_of(pair_of, bugeye(), number, circle).__class__, InvalidQuestion)
        for circle in NO_CIRCLES:
            for number in NUMBERS:
                self.assertIs(error_of(pair_of, bugeye(), number, circle).__class__, InvalidCircle)
                self.assertIs(error_of(pair_of, strip(), number, circle).__class__, InvalidCircle)


class Forms(unittest.TestCase):
    def test_forms(self):
        for root in ROOTS:
            for word in ((), (1,), (2, 4, 1), LONG_WORD):
                four = walked(Four(root), word)
                for number in NUMBERS:
                    curvatures = four.curvatures()
                    b = curvatures[number - 1]
                    b1, b2, b3 = [curvatures[other - 1] for other in NUMBERS if other != number]
                    form = form_of(four, number)
                    self.assertIs(form.__class__, tuple)
                    self.assertEqual(form, (b + b1, b3 - b - b1 - b2, b + b2))
                    self.assertEqual(form[1] ** 2 - 4 * form[0] * form[2], -4 * b * b)
                    for p, q in small_pairs(3) + list(GREAT_PAIRS):
                        curvature = form[0] * p * p + form[1] * p * q + form[2] * q * q - b
                        self.assertEqual(curvature_by(four, number, (p, q)), curvature)
                        self.assertEqual(curvature_by(four, number, [-p, -q]), curvature)
                        self.assertEqual(by_formula(four, number, (p, q))[0], curvature)

    def test_errors(self):
        for number in NO_NUMBERS:
            self.assertIs(error_of(form_of, bugeye(), number).__class__, InvalidQuestion)

    def test_around_a_line(self):
        self.assertEqual(form_of(strip(), 1), (0, 0, 1))
        for number, p in product((1, 2), range(-5, 6)):
            circle = circle_by(strip(), number, (p, 1))
            self.assertEqual(circle[0], 1)
            self.assertTrue(touch(circle, strip().circle(number)))
            self.assertEqual(pair_of(strip(), number, circle), told((p, 1)))
        # The other line is the one circle with curvature 0 that touches a line.
        self.assertEqual(curvature_by(strip(), 1, (1, 0)), 0)
        self.assertEqual(circle_by(strip(), 1, (1, 0)), strip().circle(2))
        self.assertEqual(pair_of(strip(), 2, strip().circle(1)), (1, 0))
        self.assertEqual(curvature_by(strip(), 1, (3, 7)), 49)


class Neighbours(unittest.TestCase):
    def test_against_doubles(self):
        for root in (BUGEYE, NEGATIVE_ROOTS[2], STRIPS[0]):
            four = walked(Four(root), (1, 2))
            for number in NUMBERS:
                circles = {pair: circle_by(four, number, pair) for pair in small_pairs(3)}
                for one, other in product(small_pairs(3), repeat=2):
                    expected = double(circles[one], circles[other]) == -2
                    self.assertIs(touch(circles[one], circles[other]), expected)
                    self.assertIs(are_neighbours(one, other), expected)

    def test_signs_and_lists(self):
        for one, other in product(small_pairs(3), repeat=2):
            expected = abs(one[0] * other[1] - one[1] * other[0]) == 1
            self.assertIs(are_neighbours(list(one), other), expected)
            self.assertIs(are_neighbours((-one[0], -one[1]), other), expected)
            self.assertIs(are_neighbours(one, [-other[0], -other[1]]), expected)
        self.assertIs(are_neighbours((MOST, MOST - 1), (MOST - 1, MOST - 2)), True)
        self.assertIs(are_neighbours((MOST, 1), (MOST - 1, 1)), True)
        self.assertIs(are_neighbours((MOST, 1), (MOST - 2, 1)), False)
        self.assertIs(are_neighbours((2, 3), (2, 3)), False)
        self.assertIs(are_neighbours((2, 3), (-2, -3)), False)

    def test_common_neighbours(self):
        pairs = small_pairs(8)
        for one, other in product(small_pairs(3), repeat=2):
            if not are_neighbours(one, other):
                for kind in (tuple, list):
                    self.assertIs(error_of(common_neighbours, kind(one), kind(other)).__class__, InvalidQuestion)
                continue
            expected = [pair for pair in pairs if are_neighbours(pair, one) and are_neighbours(pair, other)]
            self.assertEqual(len(expected), 2)
            for first, second in ((one, other), (other, one), ([-one[0], -one[1]], other)):
                found = common_neighbours(first, second)
                self.assertEqual(found, sorted(expected))
                self.assertIs(found.__class__, list)
                self.assertTrue(all(pair.__class__ is tuple for pair in found))

    def test_common_neighbours_beyond_the_bounds(self):
        # What is told may be beyond what can be handed in.
        found = common_neighbours((MOST, MOST - 1), (MOST - 1, MOST - 2))
        self.assertEqual(found, [(1, 1), (2 * MOST - 1, 2 * MOST - 3)])

    def test_errors(self):
        for pair in NO_PAIRS:
            for other in ((1, 0), pair, [3, 4]):
                for action in (are_neighbours, common_neighbours):
                    self.assertIs(error_of(action, pair, other).__class__, InvalidQuestion, (pair, other))
                    self.assertIs(error_of(action, other, pair).__class__, InvalidQuestion, (pair, other))

    def test_at_the_bounds(self):
        for pair in GREAT_PAIRS:
            self.assertIsNone(error_of(are_neighbours, pair, (1, 0)))
            self.assertIsNone(error_of(circle_by, bugeye(), 2, pair))

    def test_new_lists_and_the_same_arguments(self):
        one, other = [-2, -1], [1, 1]
        four = bugeye()
        common_neighbours(one, other).clear()
        self.assertEqual(common_neighbours(one, other), [(1, 0), (3, 2)])
        circle_by(four, 1, one)
        curvature_by(four, 1, one)
        four_by(four, 1, one, other)
        are_neighbours(one, other)
        circle = [3, 1, 0, -2]
        pair_of(four, 1, circle)
        self.assertEqual((one, other, circle), ([-2, -1], [1, 1], [3, 1, 0, -2]))
        self.assertEqual(four.circles, BUGEYE)


class FoursByPairs(unittest.TestCase):
    def test_fours(self):
        for root in ROOTS[::2]:
            four = walked(Four(root), (3, 1))
            for number in NUMBERS:
                for one, other in permutations(small_pairs(3), 2):
                    if not are_neighbours(one, other):
                        continue
                    for sign in (1, -1):
                        second = [sign * other[0], sign * other[1]]
                        made = four_by(four, number, one, second)
                        total = (one[0] + second[0], one[1] + second[1])
                        expected = [by_formula(four, number, pair) for pair in (one, second, total)]
                        self.assertIs(made.__class__, Four)
                        self.assertEqual(made.circles, (four.circle(number), *expected))
                        self.assertEqual(Four(made.circles).circles, made.circles)
                        self.assertTrue(all(is_there(four, circle) for circle in made.circles))

    def test_the_four_itself(self):
        for root in ROOTS:
            four = Four(root)
            for number in NUMBERS:
                self.assertTrue(four_by(four, number, (1, 0), (0, 1)).has_same(four))
                behind = four.exchanged([other for other in NUMBERS if other != number][2])
                self.assertTrue(four_by(four, number, (1, 0), (0, -1)).has_same(behind))

    def test_a_sum_beyond_the_bounds(self):
        made = four_by(bugeye(), 1, (MOST, MOST - 1), (MOST - 1, MOST - 2))
        self.assertEqual(made.circle(4), by_formula(bugeye(), 1, (2 * MOST - 1, 2 * MOST - 3)))

    def test_errors(self):
        for number in NO_NUMBERS:
            self.assertIs(error_of(four_by, bugeye(), number, (1, 0), (0, 1)).__class__, InvalidQuestion)
        for pair in NO_PAIRS:
            for number in NUMBERS:
                self.assertIs(error_of(four_by, bugeye(), number, pair, (1, 0)).__class__, InvalidQuestion)
                self.assertIs(error_of(four_by, bugeye(), number, (0, 1), pair).__class__, InvalidQuestion)
        for one, other in (((1, 0), (1, 0)), ((1, 0), (-1, 0)), ((1, 1), (1, -1)), ((1, 0), (1, 2)), ([3, 1], [1, 3])):
            self.assertIs(error_of(four_by, bugeye(), 1, one, other).__class__, InvalidQuestion)


if __name__ == "__main__":
    unittest.main()
