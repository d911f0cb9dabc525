import unittest
from fractions import Fraction

from fourtouch.circles import (
    centre, check_circle, double, fraction, is_circle, is_line, opposite, radius, relation, side, touch,
)
from fourtouch.errors import FourtouchError, InvalidCircle, InvalidQuestion
from tests.helper import ROOTS, error_of

UNIT = (1, -1, 0, 0)
LINE = (0, 2, 1, 0)
NO_CIRCLES = ((0, 0, 0, 0), (1, 1, 0, 0), (2, 0, 1, 1), (), (1,), (1, -1, 0), (1, -1, 0, 0, 0), [1, 1, 1, 2])


def small_circles():
    """All circles that are no lines, with small integers."""
    found = []
    for b in (-4, -3, -2, -1, 1, 2, 3, 4):
        for x in range(-5, 6):
            for y in range(-5, 6):
                if (x * x + y * y - 1) % b == 0:
                    found.append((b, (x * x + y * y - 1) // b, x, y))
    return found


def relation_seen(one, other):
    """The relation of two circles that are no lines, from centres and radii."""
    r, s = Fraction(1, abs(one[0])), Fraction(1, abs(other[0]))
    across = Fraction(one[2], one[0]) - Fraction(other[2], other[0])
    along = Fraction(one[3], one[0]) - Fraction(other[3], other[0])
    distance = across * across + along * along
    if distance == 0 and r == s:
        return "same" if one[0] == other[0] else "opposite"
    if (r - s) ** 2 < distance < (r + s) ** 2:
        return "cross"
    touching = distance in ((r - s) ** 2, (r + s) ** 2)
    discs_apart = distance >= (r + s) ** 2
    if one[0] > 0 and other[0] > 0:
        pair = ("touch", "apart") if discs_apart else ("touch inside", "nested")
    elif one[0] < 0 and other[0] < 0:
        pair = ("touch around", "around") if discs_apart else ("touch inside", "nested")
    elif discs_apart:
        pair = ("touch inside", "nested")
    else:
        lesser_is_disc = (r < s) == (one[0] > 0)
        pair = ("touch", "apart") if lesser_is_disc else ("touch around", "around")
    return pair[0] if touching else pair[1]


class WhatIsACircle(unittest.TestCase):
    def test_circles(self):
        for circle in (UNIT, LINE, (-1, 1, 0, 0), (2, 0, 1, 0), (38, 4, -3, 12), (-6, -4, 5, 0), (0, -7, 0, -1)):
            self.assertIs(is_circle(circle), True)
            self.assertIs(is_circle(list(circle)), True)
            self.assertIsNone(check_circle(circle))
            self.assertIsNone(check_circle(list(circle)))

    def test_one_integer_changed(self):
        for circle in ((38, 4, -3, 12), (15, 1, 0, 4), (-6, -4, 5, 0)):
            for at in range(4):
                for step in (-1, 1, 100):
                    changed = list(circle)
                    changed[at] += step
                    b, c, x, y = changed
                    self.assertIs(is_circle(changed), x * x + y * y - b * c == 1)
        self.assertIs(is_circle((38, 4, -3, 13)), False)
        self.assertIs(is_circle((39, 4, -3, 12)), False)

    def test_no_circles(self):
        for circle in NO_CIRCLES:
            self.assertIs(is_circle(circle), False, circle)
            error = error_of(check_circle, circle)
            self.assertIs(error.__class__, InvalidCircle, circle)
            self.assertIsInstance(error, FourtouchError)
            self.assertIsInstance(error, ValueError)

    def test_more_or_fewer_parts(self):
        self.assertFalse(is_circle((2, 0, 1)))
        self.assertFalse(is_circle((2, 0, 1, 0, 0)))
        self.assertFalse(is_circle([0, 0, 1]))

    def test_great_integers(self):
        great = 10 ** 300
        self.assertTrue(is_circle((great, great, 1, great)))
        self.assertFalse(is_circle((great, great, 2, great)))

    def test_all_of_one_circle_raise_invalid_circle(self):
        point = ((0, 1), (0, 1))
        for circle in NO_CIRCLES:
            for action in (is_line, opposite, centre, radius):
                self.assertIs(error_of(action, circle).__class__, InvalidCircle, (action, circle))
            self.assertIs(error_of(side, circle, point).__class__, InvalidCircle, circle)

    def test_all_of_two_circles_raise_invalid_circle(self):
        for circle in NO_CIRCLES:
            for action in (double, touch, relation):
                self.assertIs(error_of(action, circle, UNIT).__class__, InvalidCircle, (action, circle))
                self.assertIs(error_of(action, UNIT, circle).__class__, InvalidCircle, (action, circle))
                self.assertIs(error_of(action, circle, circle).__class__, InvalidCircle, (action, circle))


class CentresAndRadii(unittest.TestCase):
    def test_examples(self):
        self.assertEqual(centre((-6, -4, 5, 0)), ((-5, 6), (0, 1)))
        self.assertEqual(radius((-6, -4, 5, 0)), (1, 6))

    def test_lowest_terms(self):
        for circle in small_circles():
            b, _, x, y = circle
            across, along = Fraction(x, b), Fraction(y, b)
            told = ((across.numerator, across.denominator), (along.numerator, along.denominator))
            self.assertEqual(centre(circle), told)
            self.assertEqual(centre(list(circle)), told)
            self.assertEqual(radius(circle), (1, abs(b)))

    def test_kinds(self):
        told = centre([4, 2, 3, 0])
        self.assertEqual(told, ((3, 4), (0, 1)))
        self.assertIs(told.__class__, tuple)
        self.assertIs(told[0].__class__, tuple)
        self.assertIs(radius([4, 2, 3, 0]).__class__, tuple)

    def test_lines_have_none(self):
        for line in (LINE, (0, 2, 0, 1), (0, 0, -1, 0), (0, 5, 0, 1), [0, -3, 0, -1]):
            self.assertIs(error_of(centre, line).__class__, InvalidQuestion)
            self.assertIs(error_of(radius, line).__class__, InvalidQuestion)

    def test_is_line(self):
        self.assertIs(is_line(LINE), True)
        self.assertIs(is_line([0, 0, 0, -1]), True)
        self.assertIs(is_line(UNIT), False)
        self.assertIs(is_line((-1, 1, 0, 0)), False)

    def test_fractions(self):
        for number in range(-12, 13):
            for other in list(range(-12, 0)) + list(range(1, 13)):
                seen = Fraction(number, other)
                self.assertEqual(fraction(number, other), (seen.numerator, seen.denominator))
        self.assertEqual(fraction(0, -7), (0, 1))
        self.assertEqual(fraction(-6, -4), (3, 2))
        self.assertEqual(fraction(6 * 10 ** 80, -4 * 10 ** 80), (-3, 2))
        self.assertIs(fraction(1, 2).__class__, tuple)


class Sides(unittest.TestCase):
    def test_examples(self):
        self.assertEqual(side((-1, 1, 0, 0), ((1, 2), (0, 1))), -1)
        self.assertEqual(side((2, 0, 1, 0), ((2, 4), (1, 3))), 1)
        self.assertEqual(side((0, 2, 0, 1), ((7, 1), (1, 1))), 0)

    def test_by_distance(self):
        points = [(Fraction(p, 3), Fraction(q, 4)) for p in range(-7, 8) for q in range(-7, 8)]
        for circle in small_circles()[::17]:
            b, _, x, y = circle
            for p, q in points:
                gap = (p - Fraction(x, b)) ** 2 + (q - Fraction(y, b)) ** 2 - Fraction(1, b * b)
                expected = 0 if gap == 0 else (1 if (gap < 0) == (b > 0) else -1)
                point = ((p.numerator, p.denominator), (q.numerator, q.denominator))
                self.assertEqual(side(circle, point), expected)
                self.assertEqual(side(opposite(circle), point), -expected)

    def test_lines(self):
        for line in (LINE, (0, -3, -1, 0), (0, 1, 0, 1), (0, 0, 0, -1)):
            _, c, x, y = line
            for p in range(-4, 5):
                for q in range(-4, 5):
                    value = 2 * (x * Fraction(p, 2) + y * Fraction(q, 3)) - c
                    expected = 0 if value == 0 else (1 if value > 0 else -1)
                    self.assertEqual(side(line, ((p, 2), (q, 3))), expected)
                    self.assertEqual(side(opposite(line), ((p, 2), (q, 3))), -expected)

    def test_fractions_that_are_not_in_lowest_terms(self):
        for many in (1, 2, 6, 10 ** 40):
            self.assertEqual(side(UNIT, ((3 * many, 5 * many), (4, 5))), 0)
            self.assertEqual(side(UNIT, ((3 * many, 5 * many), (8 * many, 10 * many))), 0)
            self.assertEqual(side(UNIT, ((3 * many, 5 * many), (3, 5))), 1)
            self.assertEqual(side(UNIT, ((3 * many, 5 * many), (5, 5))), -1)
            self.assertEqual(side(LINE, ((many, many), (0, many))), 0)
            self.assertEqual(side([2, 0, 1, 0], ((0, many), (0, 1))), 0)

    def test_no_fractions(self):
        for under in (0, -1, -4):
            for circle in (UNIT, LINE, (-1, 1, 0, 0)):
                self.assertIs(error_of(side, circle, ((1, under), (0, 1))).__class__, InvalidQuestion)
                self.assertIs(error_of(side, circle, ((0, 1), (1, under))).__class__, InvalidQuestion)
                self.assertIs(error_of(side, circle, ((1, under), (1, under))).__class__, InvalidQuestion)

    def test_no_circle_comes_first(self):
        self.assertIs(error_of(side, (1, 1, 0, 0), ((1, 0), (0, 1))).__class__, InvalidCircle)


class Relations(unittest.TestCase):
    def test_examples(self):
        self.assertEqual(double((-1, 1, 0, 0), (2, 0, 1, 0)), -2)
        self.assertEqual(relation((2, 0, 1, 0), (2, 0, -1, 0)), "touch")
        self.assertEqual(relation((1, -1, 0, 0), (2, 0, 1, 0)), "touch inside")

    def test_opposites(self):
        self.assertEqual(opposite((38, 4, -3, 12)), (-38, -4, 3, -12))
        self.assertEqual(opposite([0, 2, 1, 0]), (0, -2, -1, 0))
        self.assertIs(opposite([0, 2, 1, 0]).__class__, tuple)

    def test_doubles(self):
        self.assertEqual(double((2, 0, 1, 0), (3, 1, 0, 2)), -2)
        self.assertEqual(double((1, 3, 2, 0), (2, 2, 1, 2)), 2 * 2 - (2 + 6))
        for circle in small_circles()[::5] + [LINE, (0, -3, 0, 1)]:
            self.assertEqual(double(circle, circle), 2)
            self.assertEqual(double(circle, opposite(circle)), -2)
            for other in (UNIT, LINE, (3, 1, 0, 2)):
                b, c, x, y = circle
                d, e, z, w = other
                self.assertEqual(double(circle, other), 2 * (x * z + y * w) - (b * e + d * c))
                self.assertEqual(double(list(other), list(circle)), double(circle, other))

    def test_relations_of_circles(self):
        some = small_circles()[::7]
        seen = set()
        for one in some:
            for other in some + [one, opposite(one)]:
                word = relation_seen(one, other)
                seen.add(word)
                self.assertEqual(relation(one, other), word, (one, other))
                self.assertEqual(relation(other, one), word, (other, one))
                self.assertIs(touch(one, other), word == "touch")
                self.assertIs(touch(other, one), word == "touch")
        self.assertEqual(len(seen), 9)

    def test_each_word(self):
        around = (-1, 1, 0, 0)
        told = (
            (UNIT, UNIT, "same"),
            (UNIT, around, "opposite"),
            (UNIT, (1, 3, 2, 0), "touch"),
            (around, (2, 0, 1, 0), "touch"),
            (around, (-1, -3, -2, 0), "touch around"),
            (UNIT, (-2, 0, -1, 0), "touch around"),
            (UNIT, (1, 8, 3, 0), "apart"),
            (around, (3, 0, 1, 0), "apart"),
            (UNIT, (-3, 0, -1, 0), "around"),
            (around, (-1, -8, -3, 0), "around"),
            (UNIT, (2, 0, 0, -1), "touch inside"),
            (around, (2, 4, 3, 0), "touch inside"),
            (UNIT, (3, 0, 0, 1), "nested"),
            (around, (2, 12, 5, 0), "nested"),
            (UNIT, (1, 0, 1, 0), "cross"),
            (around, (1, 0, 0, -1), "cross"),
        )
        for one, other, word in told:
            self.assertTrue(is_circle(one) and is_circle(other), (one, other))
            self.assertEqual(relation_seen(one, other), word, (one, other))
            self.assertEqual(relation(one, other), word, (one, other))
            self.assertEqual(relation(list(other), list(one)), word, (one, other))

    def test_relations_of_lines(self):
        told = (
            ((0, 2, 1, 0), (0, 2, -1, 0), "touch"),
            ((0, 0, 1, 0), (0, 1, -1, 0), "touch"),
            ((0, 2, 1, 0), (0, 2, 1, 0), "same"),
            ((0, 0, 1, 0), (0, 0, -1, 0), "opposite"),
            ((0, 2, 1, 0), (0, -2, -1, 0), "opposite"),
            ((0, 0, 1, 0), (0, -1, -1, 0), "touch around"),
            ((0, -2, 0, 1), (0, -2, 0, -1), "touch around"),
            ((0, 2, 1, 0), (0, 5, 1, 0), "touch inside"),
            ((0, 2, 1, 0), (0, 5, 0, 1), "cross"),
            ((0, 2, 1, 0), (1, -1, 0, 0), "touch"),
            ((0, -2, 1, 0), (1, -1, 0, 0), "touch inside"),
            ((0, 4, 1, 0), (1, -1, 0, 0), "apart"),
            ((0, -4, 1, 0), (1, -1, 0, 0), "nested"),
            ((0, 1, 1, 0), (1, -1, 0, 0), "cross"),
            ((0, 2, 1, 0), (-1, 1, 0, 0), "touch inside"),
            ((0, -2, 1, 0), (-1, 1, 0, 0), "touch around"),
            ((0, -4, 1, 0), (-1, 1, 0, 0), "around"),
            ((0, 4, 1, 0), (-1, 1, 0, 0), "nested"),
        )
        for one, other, word in told:
            self.assertEqual(relation(one, other), word, (one, other))
            self.assertEqual(relation(other, one), word, (other, one))
            self.assertIs(touch(one, other), word == "touch")
            self.assertIs(touch(list(other), list(one)), word == "touch")

    def test_a_list_is_the_same_as_a_tuple(self):
        self.assertEqual(relation([1, -1, 0, 0], (1, -1, 0, 0)), "same")
        self.assertEqual(relation((1, -1, 0, 0), [1, -1, 0, 0]), "same")
        self.assertEqual(relation((1, -1, 0, 0), [-1, 1, 0, 0]), "opposite")
        self.assertEqual(relation([-1, 1, 0, 0], (1, -1, 0, 0)), "opposite")

    def test_circles_of_roots_touch(self):
        for root in ROOTS:
            for one in root:
                for other in root:
                    self.assertIs(touch(one, other), one != other)
                    self.assertEqual(relation(one, other), "same" if one == other else "touch")
                    self.assertFalse(touch(opposite(one), opposite(other)))

    def test_arguments_stay_as_they_are(self):
        one, other = [2, 0, 1, 0], [-1, 1, 0, 0]
        for action in (double, touch, relation):
            action(one, other)
        for action in (is_circle, check_circle, is_line, opposite, centre, radius):
            action(one)
        side(one, ((2, 4), (1, 3)))
        self.assertEqual((one, other), ([2, 0, 1, 0], [-1, 1, 0, 0]))
        self.assertEqual(opposite(opposite(one)), tuple(one))


if __name__ == "__main__":
    unittest.main()
