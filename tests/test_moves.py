import unittest
from fractions import Fraction
from itertools import permutations, product

from fourtouch.addresses import address_of, coordinates, is_there
from fourtouch.circles import double, side
from fourtouch.errors import InvalidQuestion
from fourtouch.fours import Four
from fourtouch.moves import coarser, finer, imaged, mirrored, moved, put, turned, way_between
from fourtouch.roots import alike_heaps, root_curvatures
from tests.helper import (
    BUGEYE, LONG_WORD, NEGATIVE_ROOTS, ROOTS, STRIPS, bugeye, error_of, great_root, heap_circles, laid, laid_circle,
    reduced_up_to, strip, walked,
)

STEPS = ((0, 0), (1, 0), (0, 1), (-1, 0), (0, -1), (3, -2), (-7, 12), (10 ** 40, -10 ** 41 - 3))
FOURS = tuple(walked(Four(root), word) for root in ROOTS for word in ((), (1, 2, 3), (4, 1)))
# Roots with a point at each corner where circles touch, and others.
POINTS = tuple(
    ((p, under), (q, other)) for p, under, q, other in product((-3, -1, 0, 1, 2, 5), (1, 2), (-2, 0, 1, 3), (1, 3))
)


def value(point):
    """A point as two fractions of Python."""
    return tuple(Fraction(*part) for part in point)


def told(point):
    """A point of two fractions of Python as it is told."""
    return tuple((part.numerator, part.denominator) for part in point)


class Moving(unittest.TestCase):
    def test_examples(self):
        four = bugeye()
        self.assertEqual(moved(four, 1, 0).circles, ((-1, 0, -1, 0), (2, 4, 3, 0), (2, 0, 1, 0), (3, 4, 3, 2)))
        self.assertEqual(way_between(four, turned(moved(four, 1, 0), 1)), (0, 1, 0, 1))
        self.assertEqual(imaged(four).curvatures(), (1, 0, 0, 1))
        self.assertIs(error_of(coarser, four, 2).__class__, InvalidQuestion)

    def test_circle_by_circle(self):
        for four in FOURS:
            for s, t in STEPS:
                before = four.circles
                there = moved(four, s, t)
                self.assertIs(there.__class__, Four)
                self.assertEqual(there.circles, tuple(laid_circle(circle, 0, 0, s, t) for circle in four.circles))
                self.assertTrue(all(circle.__class__ is tuple for circle in there.circles))
                self.assertEqual(Four(there.circles).circles, there.circles)
                self.assertEqual(there.curvatures(), four.curvatures())
                self.assertEqual(moved(there, -s, -t).circles, four.circles)
                self.assertEqual(four.circles, before)

    def test_one_move_behind_another(self):
        for s, t in STEPS:
            for z, w in STEPS:
                one = moved(moved(bugeye(), s, t), z, w)
                self.assertEqual(one.circles, moved(bugeye(), s + z, t + w).circles)

    def test_lines(self):
        self.assertEqual(moved(strip(), 3, 5).circles, ((0, -4, -1, 0), (0, 8, 1, 0), (1, 24, 3, 4), (1, 44, 3, 6)))
        self.assertEqual(moved(strip(), 0, 9).circles[:2], strip().circles[:2])

    def test_centres_and_points_move_along(self):
        for four in FOURS[::2]:
            for s, t in STEPS[:7]:
                there = moved(four, s, t)
                for point in POINTS[::3]:
                    p, q = value(point)
                    far = told((p + s, q + t))
                    for one, other in zip(four.circles, there.circles):
                        self.assertEqual(side(one, point), side(other, far))


class Turning(unittest.TestCase):
    def test_one_quarter(self):
        for four in FOURS:
            there = turned(four, 1)
            self.assertEqual(there.circles, tuple((b, c, -y, x) for b, c, x, y in four.circles))
            self.assertIs(there.__class__, Four)
            self.assertEqual(Four(there.circles).circles, there.circles)

    def test_several_quarters(self):
        for four in FOURS:
            before = four.circles
            there = four
            for quarters in range(12):
                self.assertEqual(turned(four, quarters).circles, there.circles)
                self.assertEqual(turned(four, quarters - 12).circles, there.circles)
                self.assertEqual(turned(there, -quarters).circles, four.circles)
                self.assertEqual(turned(four, quarters + 4 * 10 ** 50).circles, there.circles)
                self.assertEqual(turned(four, quarters - 4 * 10 ** 50).circles, there.circles)
                there = Four([(b, c, -y, x) for b, c, x, y in there.circles])
            self.assertEqual(four.circles, before)

    def test_to_the_right(self):
        self.assertEqual(turned(bugeye(), -1).circles, ((-1, 1, 0, 0), (2, 0, 0, -1), (2, 0, 0, 1), (3, 1, 2, 0)))

    def test_points_turn_along(self):
        for four in FOURS[::2]:
            for quarters in (1, 2, 3, -1, 5, -6):
                there = turned(four, quarters)
                for point in POINTS[::3]:
                    p, q = value(point)
                    for _ in range(quarters % 4):
                        p, q = -q, p
                    for one, other in zip(four.circles, there.circles):
                        self.assertEqual(side(one, point), side(other, told((p, q))))


class Mirroring(unittest.TestCase):
    def test_circle_by_circle(self):
        for four in FOURS:
            before = four.circles
            there = mirrored(four)
            self.assertIs(there.__class__, Four)
            self.assertEqual(there.circles, tuple((b, c, -x, y) for b, c, x, y in four.circles))
            self.assertEqual(Four(there.circles).circles, there.circles)
            self.assertEqual(mirrored(there).circles, four.circles)
            self.assertEqual(four.circles, before)

    def test_points_are_mirrored_along(self):
        sides = set()
        for four in FOURS:
            there = mirrored(four)
            for point in POINTS:
                p, q = value(point)
                for one, other in zip(four.circles, there.circles):
                    self.assertEqual(side(one, point), side(other, told((-p, q))))
                    sides.add(side(one, point))
        self.assertEqual(sides, {-1, 0, 1})


class Putting(unittest.TestCase):
    def test_in_this_order(self):
        for four in FOURS:
            for flip in (0, 1):
                for quarters in (-5, -1, 0, 1, 2, 3, 4, 7):
                    for s, t in STEPS[::3]:
                        way = (flip, quarters, s, t)
                        there = mirrored(four) if flip else four
                        there = moved(turned(there, quarters), s, t)
                        self.assertEqual(put(four, way).circles, there.circles)
                        self.assertEqual(put(four, list(way)).circles, there.circles)
                        self.assertEqual(there.circles, laid(four, flip, quarters % 4, s, t).circles)
        self.assertNotEqual(put(bugeye(), (1, 1, 2, 0)).circles, mirrored(moved(turned(bugeye(), 1), 2, 0)).circles)

    def test_no_way_at_all(self):
        for four in FOURS:
            self.assertEqual(put(four, (0, 0, 0, 0)).circles, four.circles)
            self.assertIs(put(four, (0, 0, 0, 0)).__class__, Four)

    def test_another_flip(self):
        for flip in (2, -1, 3, 10, -2, 10 ** 30):
            for rest in ((0, 0, 0), (1, 2, 3)):
                self.assertIs(error_of(put, bugeye(), (flip, *rest)).__class__, InvalidQuestion)

    def test_the_four_and_the_way_stay(self):
        four, way = bugeye(), [1, 3, -2, 5]
        put(four, way)
        self.assertEqual(four.circles, BUGEYE)
        self.assertEqual(way, [1, 3, -2, 5])


class Imaging(unittest.TestCase):
    def test_circle_by_circle(self):
        for four in FOURS:
            for s, t in STEPS:
                here = moved(four, s, t)
                there = imaged(here)
                self.assertIs(there.__class__, Four)
                self.assertEqual(there.circles, tuple((c, b, x, y) for b, c, x, y in here.circles))
                self.assertEqual(Four(there.circles).circles, there.circles)
                self.assertEqual(imaged(there).circles, here.circles)

    def test_points_and_their_mirror_images(self):
        sides = set()
        for four in FOURS:
            there = imaged(four)
            for point in POINTS:
                p, q = value(point)
                if (p, q) == (0, 0):
                    continue
                far = told((p / (p * p + q * q), q / (p * p + q * q)))
                for one, other in zip(four.circles, there.circles):
                    self.assertEqual(side(one, point), side(other, far))
                    sides.add(side(one, point))
        self.assertEqual(sides, {-1, 0, 1})


class FinerAndCoarser(unittest.TestCase):
    def test_integers_that_cannot_be_divided(self):
        for four in [moved(four, s, t) for four in FOURS for s, t in STEPS[:6]]:
            for factor in (1, 2, 3, 4, 5, 7, 12):
                error = error_of(finer, four, factor)
                if any(c % factor for _, c, _, _ in four.circles):
                    self.assertIs(error.__class__, InvalidQuestion)
                else:
                    expected = tuple((b * factor, c // factor, x, y) for b, c, x, y in four.circles)
                    self.assertEqual(finer(four, factor).circles, expected)
                    self.assertEqual(Four(expected).circles, expected)
                    self.assertIs(finer(four, factor).__class__, Four)
                    self.assertEqual(coarser(finer(four, factor), factor).circles, four.circles)
                error = error_of(coarser, four, factor)
                if any(b % factor for b, _, _, _ in four.circles):
                    self.assertIs(error.__class__, InvalidQuestion)
                else:
                    expected = tuple((b // factor, c * factor, x, y) for b, c, x, y in four.circles)
                    self.assertEqual(coarser(four, factor).circles, expected)
                    self.assertEqual(Four(expected).circles, expected)
                    self.assertEqual(finer(coarser(four, factor), factor).circles, four.circles)

    def test_some_that_can(self):
        four = Four([(0, 0, -1, 0), (0, 2, 1, 0), (2, 2, 1, -2), (2, 0, 1, 0)])
        self.assertEqual(finer(four, 2).circles, ((0, 0, -1, 0), (0, 1, 1, 0), (4, 1, 1, -2), (4, 0, 1, 0)))
        self.assertEqual(coarser(four, 2).circles, ((0, 0, -1, 0), (0, 4, 1, 0), (1, 4, 1, -2), (1, 0, 1, 0)))
        self.assertIs(error_of(finer, four, 4).__class__, InvalidQuestion)
        self.assertIs(error_of(coarser, four, 4).__class__, InvalidQuestion)
        self.assertEqual(finer(coarser(four, 2), 4).circles, finer(four, 2).circles)

    def test_radii_and_distances(self):
        four = moved(coarser(Four(STRIPS[1]), 2), 0, 0)
        there = finer(four, 4)
        for point in POINTS:
            p, q = value(point)
            for one, other in zip(four.circles, there.circles):
                self.assertEqual(side(one, point), side(other, told((p / 4, q / 4))))

    def test_the_factor_one(self):
        for four in FOURS:
            self.assertEqual(finer(four, 1).circles, four.circles)
            self.assertEqual(coarser(four, 1).circles, four.circles)

    def test_no_factors(self):
        for four in FOURS[::4]:
            for factor in (0, -1, -2, -10 ** 40):
                self.assertIs(error_of(finer, four, factor).__class__, InvalidQuestion)
                self.assertIs(error_of(coarser, four, factor).__class__, InvalidQuestion)

    def test_great_factors(self):
        for four in FOURS[::4]:
            for factor in (10 ** 9 + 7, 10 ** 60):
                self.assertIs(error_of(finer, four, factor).__class__, InvalidQuestion)
                self.assertIs(error_of(coarser, four, factor).__class__, InvalidQuestion)


class Between(unittest.TestCase):
    def ways(self, four, other, reach):
        """All ways with steps up to a reach, ascending, by trying them."""
        near = range(-reach, reach + 1)
        return [way for way in product((0, 1), range(4), near, near) if laid(four, *way).circles == other.circles]

    def test_every_flip_and_quarter(self):
        for four in FOURS:
            for flip in (0, 1):
                for quarters in range(4):
                    for s, t in STEPS:
                        there = laid(four, flip, quarters, s, t)
                        way = way_between(four, there)
                        self.assertIs(way.__class__, tuple)
                        self.assertEqual(way, (flip, quarters, s, t))
                        self.assertEqual(put(four, way).circles, there.circles)

    def test_against_all_ways(self):
        # The centres of a four, or its lines, are moved upon themselves by no other way, so there is one at most.
        for four in (bugeye(), strip(), FOURS[4], FOURS[10], Four(NEGATIVE_ROOTS[3]), Four(STRIPS[1])):
            for way in product((0, 1), range(4), (0, 1), (-1, 0)):
                there = laid(four, *way)
                self.assertEqual(self.ways(four, there, 2), [way])
                self.assertEqual(way_between(four, there), way)

    def assert_way(self, four, other):
        """The way that is told is the first one of all ways, or None."""
        self.assertEqual([way_between(four, other)], self.ways(four, other, 3)[:1] or [None])

    def test_to_itself(self):
        for four in FOURS:
            self.assertEqual(way_between(four, four), (0, 0, 0, 0))

    def test_other_orders(self):
        for order in permutations((1, 2, 3, 4)):
            for four in (bugeye(), strip(), FOURS[5]):
                there = four.with_order(order)
                self.assert_way(four, there)
        # Two curvatures are the same in these orders, but the circles are not put upon one another.
        four = FOURS[5]
        self.assertEqual(len(set(four.curvatures())), 4)
        self.assertIsNone(way_between(four, four.with_order((2, 1, 3, 4))))
        self.assertEqual(way_between(bugeye(), bugeye().with_order((1, 3, 2, 4))), (1, 0, 0, 0))

    def test_another_kind(self):
        for four in FOURS:
            for other in FOURS:
                if four.curvatures() != other.curvatures():
                    self.assertIsNone(way_between(four, other))
        self.assertIsNone(way_between(bugeye(), bugeye().exchanged(2)))

    def test_fractions_as_steps(self):
        for four in (Four(STRIPS[1]), walked(Four(STRIPS[1]), (1, 3, 2))):
            # In the plane with all lengths doubled it is moved by one step, so by a half of one.
            there = finer(moved(coarser(four, 2), 1, 1), 2)
            self.assertEqual(there.curvatures(), four.curvatures())
            self.assertIsNone(way_between(four, there))
            self.assertEqual(way_between(four, finer(moved(coarser(four, 2), 2, -4), 2)), (0, 0, 1, -2))

    def test_strips(self):
        for root in STRIPS:
            four = Four(root)
            for number in (1, 2, 3, 4):
                there = four.exchanged(number)
                self.assert_way(four, there)
        self.assertEqual(way_between(strip(), moved(strip(), 0, 2)), (0, 0, 0, 2))
        self.assertEqual(way_between(strip(), moved(strip(), 2, 0)), (0, 0, 2, 0))

    def test_great_integers(self):
        for four in (walked(bugeye(), LONG_WORD[:300]), great_root(10 ** 400)):
            for way in ((1, 3, 10 ** 300, -10 ** 301), (0, 0, -5, 0)):
                self.assertEqual(way_between(four, put(four, way)), way)

    def test_the_fours_stay(self):
        one, other = bugeye(), mirrored(bugeye())
        way_between(one, other)
        imaged(one)
        self.assertEqual(one.circles, BUGEYE)


class WhatStays(unittest.TestCase):
    CHANGES = (
        lambda four: put(four, (0, 1, 2, 3)), lambda four: put(four, (1, 2, -4, 7)), mirrored, imaged,
        lambda four: imaged(moved(four, 3, 1)), lambda four: turned(four, 3), lambda four: moved(four, -1, 5),
        lambda four: finer(four, 2), lambda four: coarser(four, 2),
    )

    def test_doubles(self):
        made = 0
        for four in FOURS:
            for change in self.CHANGES:
                if error_of(change, four) is None:
                    made += 1
                    there = change(four)
                    for one, other in product((1, 2, 3, 4), repeat=2):
                        self.assertEqual(double(there.circle(one), there.circle(other)),
                                         double(four.circle(one), four.circle(other)))
        self.assertGreater(made, 7 * len(FOURS))

    def test_exchanges_in_either_order(self):
        for four in FOURS[::2]:
            for change in self.CHANGES:
                if error_of(change, four) is None:
                    for word in reduced_up_to(3)[::3]:
                        self.assertEqual(walked(change(four), word).circles, change(walked(four, word)).circles)

    def test_putting_behind_long_words(self):
        for four in FOURS[::5]:
            for way in ((1, 3, 5, -9), (0, 1, 10 ** 20, 4)):
                one = put(walked(four, LONG_WORD), way)
                self.assertEqual(one.circles, walked(put(four, way), LONG_WORD).circles)

    def test_root_curvatures(self):
        for four in FOURS:
            for way in ((0, 1, 2, 3), (1, 2, -4, 7)):
                self.assertEqual(root_curvatures(put(four, way)), root_curvatures(four))
                self.assertIs(alike_heaps(put(four, way), four), True)

    def test_root_curvatures_of_finer_fours(self):
        made = 0
        for four in FOURS:
            for factor in (2, 4):
                if error_of(finer, four, factor) is None:
                    made += 1
                    expected = tuple(factor * number for number in root_curvatures(four))
                    self.assertEqual(root_curvatures(finer(four, factor)), expected)
                if error_of(coarser, four, factor) is None:
                    made += 1
                    expected = tuple(number // factor for number in root_curvatures(four))
                    self.assertEqual(root_curvatures(coarser(four, factor)), expected)
        self.assertGreater(made, 5)

    def test_addresses_and_coordinates(self):
        made = 0
        for four in FOURS[::2]:
            circles = heap_circles(four, 2)
            changes = [(put(four, way), lambda circle, way=way: laid_circle(circle, *way))
                       for way in ((0, 1, 2, 3), (1, 2, -4, 7))]
            changes.append((imaged(four), lambda circle: (circle[1], circle[0], *circle[2:])))
            if error_of(finer, four, 2) is None:
                changes.append((finer(four, 2), lambda circle: (circle[0] * 2, circle[1] // 2, *circle[2:])))
            if error_of(coarser, four, 2) is None:
                changes.append((coarser(four, 2), lambda circle: (circle[0] // 2, circle[1] * 2, *circle[2:])))
            made += len(changes) > 3
            for there, change in changes:
                for circle, address in circles.items():
                    self.assertTrue(is_there(there, change(circle)))
                    self.assertEqual(address_of(there, change(circle)), address)
                    self.assertEqual(coordinates(there, change(circle)), coordinates(four, circle))
        self.assertGreater(made, 1)


if __name__ == "__main__":
    unittest.main()
