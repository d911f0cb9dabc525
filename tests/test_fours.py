import unittest
from itertools import combinations, permutations

from fourtouch.circles import is_circle, opposite, touch
from fourtouch.errors import InvalidCircle, InvalidFour, InvalidQuestion
from fourtouch.fours import Four, check_number
from tests.helper import BUGEYE, LONG_WORD, NEGATIVE_ROOTS, ROOTS, STRIP, STRIPS, bugeye, error_of, reduced_up_to, strip
from tests.helper import walked

NO_NUMBERS = (0, 5, -1, -4, 10 ** 30, -10 ** 30)


class CreatingFours(unittest.TestCase):
    def test_examples(self):
        four = bugeye()
        self.assertEqual(four.curvatures(), (-1, 2, 2, 3))
        self.assertEqual(four.other(1), (15, 1, 0, 4))
        self.assertIs(four.is_root(), True)
        self.assertIs(four.exchanged(2).is_root(), False)
        self.assertEqual(four.with_order([4, 1, 2, 3]).circle(2), (-1, 1, 0, 0))
        error = error_of(Four, [(1, -1, 0, 0), (-2, 0, -1, 0), (-2, 0, 1, 0), (-3, -1, 0, -2)])
        self.assertIs(error.__class__, InvalidFour)

    def test_tuples_and_lists(self):
        for circles in (BUGEYE, list(BUGEYE), [list(circle) for circle in BUGEYE], tuple(map(list, BUGEYE))):
            four = Four(circles)
            self.assertEqual(four.circles, BUGEYE)
            self.assertIs(four.circles.__class__, tuple)
            for circle in four.circles:
                self.assertIs(circle.__class__, tuple)

    def test_changed_behind_the_call(self):
        circles = [list(circle) for circle in BUGEYE]
        four = Four(circles)
        circles[0][0] = 99
        circles[1] = [1, 1, 1, 1]
        circles.pop()
        self.assertEqual(four.circles, BUGEYE)
        self.assertEqual(four.curvatures(), (-1, 2, 2, 3))

    def test_arguments_stay_as_they_are(self):
        circles = [list(circle) for circle in BUGEYE]
        order = [4, 1, 2, 3]
        four = Four(circles)
        four.with_order(order)
        four.number_of(circles[2])
        self.assertEqual(circles, [list(circle) for circle in BUGEYE])
        self.assertEqual(order, [4, 1, 2, 3])

    def test_every_order(self):
        for circles in permutations(STRIP):
            self.assertEqual(Four(circles).circles, circles)

    def test_not_four_circles(self):
        fifth = (15, 1, 0, 4)
        for circles in ([], [BUGEYE[0]], BUGEYE[:2], BUGEYE[:3], BUGEYE + (fifth,), BUGEYE + BUGEYE):
            self.assertIs(error_of(Four, circles).__class__, InvalidFour)
            self.assertIs(error_of(Four, list(circles)).__class__, InvalidFour)

    def test_not_four_comes_ahead_of_no_circle(self):
        none = (1, 1, 1, 2)
        for circles in ([none], [none] * 3, [none] * 5, BUGEYE[:2] + (none,), BUGEYE + (none,), BUGEYE + ((1, 2),)):
            self.assertIs(error_of(Four, circles).__class__, InvalidFour)

    def test_no_circle(self):
        for at in range(4):
            for none in ((3, 1, 0, 3), (1, 1, 1, 2), (), (3, 1, 0), [3, 1, 0, 2, 0]):
                circles = list(BUGEYE)
                circles[at] = none
                self.assertIs(error_of(Four, circles).__class__, InvalidCircle, circles)

    def test_no_circle_comes_ahead_of_no_touching(self):
        apart = [(1, -1, 0, 0), (1, 8, 3, 0), (1, 24, 5, 0), (1, 1, 1, 2)]
        for circles in permutations(apart):
            self.assertIs(error_of(Four, circles).__class__, InvalidCircle)

    def test_one_pair_that_does_not_touch(self):
        # The other circle without a number touches the three, and just not the one of the number.
        for root in ROOTS:
            four = Four(root)
            for number, place in permutations((1, 2, 3, 4), 2):
                circles = list(root)
                circles[place - 1] = four.other(number)
                far = [pair for pair in combinations(circles, 2) if not touch(*pair)]
                self.assertEqual(len(far), 1)
                self.assertIs(error_of(Four, circles).__class__, InvalidFour)

    def test_a_circle_twice(self):
        for number, place in permutations((1, 2, 3, 4), 2):
            circles = list(BUGEYE)
            circles[place - 1] = circles[number - 1]
            self.assertIs(error_of(Four, circles).__class__, InvalidFour)

    def test_opposites_of_a_four(self):
        for root in ROOTS:
            error = error_of(Four, [opposite(circle) for circle in root])
            self.assertIs(error.__class__, InvalidFour)


class Numbers(unittest.TestCase):
    def test_check_number(self):
        for number in (1, 2, 3, 4):
            self.assertIsNone(check_number(number))
        for number in NO_NUMBERS:
            self.assertIs(error_of(check_number, number).__class__, InvalidQuestion)

    def test_numbers_that_are_none(self):
        for four in (bugeye(), strip()):
            for number in NO_NUMBERS:
                for action in (four.circle, four.other, four.exchanged):
                    self.assertIs(error_of(action, number).__class__, InvalidQuestion)

    def test_circles_by_number(self):
        for root in ROOTS:
            four = Four(root)
            for number in (1, 2, 3, 4):
                self.assertEqual(four.circle(number), root[number - 1])
                self.assertEqual(four.number_of(root[number - 1]), number)
                self.assertEqual(four.number_of(list(root[number - 1])), number)
                self.assertIsNone(four.number_of(four.other(number)))
                self.assertIsNone(four.number_of(opposite(root[number - 1])))

    def test_number_of_what_is_no_circle(self):
        for none in ((3, 1, 0, 3), (), (3, 1, 0), (3, 1, 0, 2, 0), [1, 1, 1, 2]):
            self.assertIs(error_of(bugeye().number_of, none).__class__, InvalidCircle)


class Curvatures(unittest.TestCase):
    def test_equation_and_signs(self):
        for root in ROOTS:
            for word in reduced_up_to(4):
                curvatures = walked(Four(root), word).curvatures()
                self.assertIs(curvatures.__class__, tuple)
                self.assertEqual(sum(curvatures) ** 2, 2 * sum(number * number for number in curvatures))
                self.assertGreater(sum(curvatures), 0)
                below = sum(number < 0 for number in curvatures)
                self.assertLessEqual(curvatures.count(0), 2)
                self.assertLessEqual(below, 1)
                self.assertTrue(below == 0 or curvatures.count(0) == 0)

    def test_in_order(self):
        for circles in permutations(BUGEYE):
            self.assertEqual(Four(circles).curvatures(), tuple(circle[0] for circle in circles))


class Exchanges(unittest.TestCase):
    def test_the_other_circle(self):
        for root in ROOTS:
            four = Four(root)
            for number in (1, 2, 3, 4):
                made = four.other(number)
                self.assertIs(made.__class__, tuple)
                stay = [circle for circle in root if circle != root[number - 1]]
                expected = tuple(2 * sum(circle[at] for circle in stay) - root[number - 1][at] for at in range(4))
                self.assertEqual(made, expected)
                self.assertTrue(is_circle(made))
                self.assertNotEqual(made, root[number - 1])
                for circle in stay:
                    self.assertTrue(touch(circle, made))

    def test_the_exchanged_four(self):
        for root in ROOTS:
            four = Four(root)
            for number in (1, 2, 3, 4):
                expected = list(root)
                expected[number - 1] = four.other(number)
                made = four.exchanged(number)
                self.assertIs(made.__class__, Four)
                self.assertEqual(made.circles, tuple(expected))
                self.assertEqual(Four(made.circles).circles, tuple(expected))
                self.assertEqual(four.circles, root)

    def test_exchanged_twice(self):
        for root in ROOTS:
            for number in (1, 2, 3, 4):
                once = Four(root).exchanged(number)
                self.assertNotEqual(once.circles, root)
                self.assertEqual(once.other(number), root[number - 1])
                self.assertEqual(once.exchanged(number).circles, root)

    def test_all_along_walks_are_fours(self):
        for root in ROOTS:
            for word in reduced_up_to(3):
                circles = walked(Four(root), word).circles
                self.assertEqual(Four(circles).circles, circles)

    def test_long_walks_with_great_integers(self):
        for root in ROOTS:
            four = walked(Four(root), LONG_WORD)
            self.assertGreater(max(four.curvatures()), 10 ** 100)
            self.assertEqual(Four(four.circles).circles, four.circles)
            self.assertEqual(walked(four, LONG_WORD[::-1]).circles, root)

    def test_a_very_long_walk(self):
        word = (1, 2, 3, 4) * 1000
        four = walked(bugeye(), word)
        self.assertTrue(is_circle(four.circle(4)))
        self.assertEqual(walked(four, word[::-1]).circles, BUGEYE)


class RootsAndStrips(unittest.TestCase):
    def test_roots(self):
        for root in ROOTS:
            self.assertIs(Four(root).is_root(), True)
            for word in reduced_up_to(3):
                four = walked(Four(root), word)
                curvatures = four.curvatures()
                expected = all(2 * number <= sum(curvatures) for number in curvatures)
                self.assertIs(four.is_root(), expected)

    def test_a_greatest_that_is_the_sum(self):
        four = bugeye()
        self.assertIs(four.exchanged(4).is_root(), True)
        for number in (1, 2, 3):
            self.assertIs(four.exchanged(number).is_root(), False)

    def test_strips(self):
        for root in STRIPS:
            self.assertIs(Four(root).is_strip(), True)
            self.assertIs(Four(root).exchanged(3).is_strip(), True)
            self.assertIs(Four(root).exchanged(1).is_strip(), False)
            self.assertIs(Four(root).exchanged(1).curvatures().count(0) == 1, True)
        for root in NEGATIVE_ROOTS:
            self.assertIs(Four(root).is_strip(), False)
            self.assertIs(Four(root).exchanged(1).is_strip(), False)


class Orders(unittest.TestCase):
    def test_with_order(self):
        for order in permutations((1, 2, 3, 4)):
            for kind in (tuple, list):
                four = bugeye().with_order(kind(order))
                self.assertIs(four.__class__, Four)
                self.assertEqual(four.circles, tuple(BUGEYE[number - 1] for number in order))

    def test_no_orders(self):
        four = bugeye()
        for order in ([], [1], [1, 2, 3], [1, 2, 3, 4, 4], [1, 2, 3, 3], [0, 1, 2, 3], [2, 3, 4, 5], [1, 2, 3, 4, 5],
                      [1, 1, 1, 1], [-1, 2, 3, 4]):
            self.assertIs(error_of(four.with_order, order).__class__, InvalidQuestion)
            self.assertIs(error_of(four.with_order, tuple(order)).__class__, InvalidQuestion)

    def test_ordered(self):
        for root in ROOTS:
            for circles in permutations(root):
                four = Four(circles)
                self.assertEqual(four.ordered().circles, tuple(sorted(root)))
                self.assertIs(four.ordered().__class__, Four)
                self.assertEqual(four.circles, circles)

    def test_has_same(self):
        for circles in permutations(BUGEYE):
            self.assertIs(bugeye().has_same(Four(circles)), True)
            self.assertIs(Four(circles).has_same(bugeye()), True)
        for number in (1, 2, 3, 4):
            self.assertIs(bugeye().has_same(bugeye().exchanged(number)), False)
            self.assertIs(bugeye().has_same(bugeye().exchanged(number).exchanged(number)), True)
        self.assertIs(bugeye().has_same(strip()), False)


if __name__ == "__main__":
    unittest.main()
