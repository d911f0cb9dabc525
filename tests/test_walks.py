import unittest
from itertools import permutations
from math import gcd

from fourtouch.errors import InvalidFour, InvalidQuestion, InvalidWord
from fourtouch.fours import Four
from fourtouch.walks import (
    circle_at, circles_along, curvatures_along, curvatures_at, four_at, fours_along, is_quadruple,
)
from tests.helper import BUGEYE, LONG_WORD, NEGATIVE_ROOTS, ROOTS, bugeye, error_of, reduced_up_to, walked, words_up_to

# Curvatures of fours, and others that obey the equation though no four of circles has them.
QUADRUPLES = (
    (-1, 2, 2, 3), (0, 0, 1, 1), (-6, 11, 14, 15), (15, 2, 2, 3), (0, 0, 3, 3), (0, 0, 5, 5), (-3, 6, 6, 9),
    (-7, 14, 14, 21), (0, 7, 0, 7), (-5, 10, 10, 15),
)
NO_QUADRUPLES = (
    (0, 0, 0, 0), (1, 1, 1, 1), (1, -2, -2, -3), (0, 0, -1, -1), (-1, 2, 2, 4), (-1, 2, 2, 2), (0, 0, 1, 2),
    (-1, 2, 2), (-1, 2, 2, 3, 0), (), (1,), (0, 0, 1), (0, 0, 1, 1, 0), (2, 0, 0, 0), (-1, -1, 2, 3),
)
NO_WORDS = ((0,), (5,), (1, 2, -1), (True,), (1, 2, True), ("1",), (None,))


class FoursAtWords(unittest.TestCase):
    def test_fours(self):
        for root in ROOTS:
            four = Four(root)
            for word in words_up_to(3):
                expected = walked(four, word).circles
                for kind in (tuple, list):
                    made = four_at(four, kind(word))
                    self.assertIs(made.__class__, Four)
                    self.assertEqual(made.circles, expected)
                self.assertEqual(four.circles, root)

    def test_fours_along(self):
        for root in ROOTS[::2]:
            for word in words_up_to(3)[::3]:
                start = Four(root)
                fours = fours_along(start, list(word))
                self.assertIs(fours.__class__, list)
                self.assertIs(fours[0], start)
                self.assertEqual(len(fours), len(word) + 1)
                for at, four in enumerate(fours):
                    self.assertIs(four.__class__, Four)
                    self.assertEqual(four.circles, walked(Four(root), word[:at]).circles)

    def test_circles(self):
        for root in ROOTS[::2]:
            for word in words_up_to(3)[::2]:
                circles = circles_along(Four(root), word)
                self.assertIs(circles.__class__, list)
                expected = [walked(Four(root), word[:at]).circle(word[at - 1]) for at in range(1, len(word) + 1)]
                self.assertEqual(circles, expected)
                if word:
                    self.assertEqual(circle_at(Four(root), list(word)), expected[-1])
                    self.assertIs(circle_at(Four(root), word).__class__, tuple)

    def test_the_last_exchange_makes_the_circle(self):
        self.assertEqual(circle_at(bugeye(), (1,)), (15, 1, 0, 4))
        self.assertEqual(circle_at(bugeye(), (1, 1)), BUGEYE[0])
        self.assertEqual(circle_at(bugeye(), (1, 2)), (38, 4, -3, 12))
        self.assertEqual(circles_along(bugeye(), [1, 1, 1, 2]), [(15, 1, 0, 4), BUGEYE[0], (15, 1, 0, 4), (38, 4, -3, 12)])

    def test_the_empty_word(self):
        for root in ROOTS:
            for empty in ((), []):
                self.assertEqual(four_at(Four(root), empty).circles, root)
                self.assertEqual([four.circles for four in fours_along(Four(root), empty)], [root])
                self.assertEqual(circles_along(Four(root), empty), [])
                self.assertIs(error_of(circle_at, Four(root), empty).__class__, InvalidQuestion)

    def test_no_words(self):
        for word in NO_WORDS:
            for kind in (tuple, list):
                for action in (four_at, fours_along, circles_along, circle_at):
                    self.assertIs(error_of(action, bugeye(), kind(word)).__class__, InvalidWord, (action, word))

    def test_long_words(self):
        four = four_at(bugeye(), LONG_WORD * 5)
        self.assertEqual(Four(four.circles).circles, four.circles)
        self.assertEqual(four_at(four, (LONG_WORD * 5)[::-1]).circles, BUGEYE)
        self.assertEqual(fours_along(bugeye(), LONG_WORD)[-1].circles, walked(bugeye(), LONG_WORD).circles)

    def test_new_lists_and_the_same_arguments(self):
        word = [1, 2, 3]
        four = bugeye()
        for action in (fours_along, circles_along):
            action(four, word).clear()
            self.assertNotEqual(action(four, word), [])
        four_at(four, word)
        circle_at(four, word)
        self.assertEqual(word, [1, 2, 3])
        self.assertEqual(four.circles, BUGEYE)


class Quadruples(unittest.TestCase):
    def test_quadruples(self):
        for curvatures in QUADRUPLES:
            for order in permutations(curvatures):
                self.assertIs(is_quadruple(order), True)
                self.assertIs(is_quadruple(list(order)), True)

    def test_no_quadruples(self):
        for curvatures in NO_QUADRUPLES:
            self.assertIs(is_quadruple(curvatures), False, curvatures)
            self.assertIs(is_quadruple(list(curvatures)), False, curvatures)

    def test_all_small_ones(self):
        for a in range(-4, 7):
            for b in range(-4, 7):
                for c in range(-4, 7):
                    for d in range(-4, 7):
                        total = a + b + c + d
                        right = total > 0 and total ** 2 == 2 * (a * a + b * b + c * c + d * d)
                        self.assertIs(is_quadruple((a, b, c, d)), right)

    def test_errors_come_in_order(self):
        for curvatures in NO_QUADRUPLES:
            for word in NO_WORDS + ((), (1, 2)):
                for action in (curvatures_at, curvatures_along):
                    self.assertIs(error_of(action, curvatures, word).__class__, InvalidFour, (action, curvatures))
                    self.assertIs(error_of(action, list(curvatures), list(word)).__class__, InvalidFour)
        for curvatures in QUADRUPLES:
            for word in NO_WORDS:
                for action in (curvatures_at, curvatures_along):
                    self.assertIs(error_of(action, curvatures, word).__class__, InvalidWord, (action, word))

    def test_example(self):
        expected = [(-1, 2, 2, 3), (-1, 6, 2, 3), (-1, 6, 2, 11)]
        self.assertEqual(curvatures_along((-1, 2, 2, 3), (2, 4)), expected)

    def test_curvatures_of_fours(self):
        for root in ROOTS:
            four = Four(root)
            for word in words_up_to(3):
                made = curvatures_at(list(four.curvatures()), list(word))
                self.assertEqual(made, walked(four, word).curvatures())
                self.assertIs(made.__class__, tuple)
                along = curvatures_along(four.curvatures(), word)
                self.assertIs(along.__class__, list)
                self.assertEqual(along, [other.curvatures() for other in fours_along(four, word)])

    def test_curvatures_that_no_four_has(self):
        for curvatures in QUADRUPLES:
            for word in words_up_to(4)[::3]:
                now = list(curvatures)
                for number in word:
                    now[number - 1] = 2 * (sum(now) - now[number - 1]) - now[number - 1]
                made = curvatures_at(curvatures, word)
                self.assertEqual(made, tuple(now))
                self.assertTrue(is_quadruple(made))
                self.assertEqual(curvatures_along(list(curvatures), word)[-1], made)

    def test_a_divisor_of_all(self):
        for curvatures in QUADRUPLES:
            divisor = gcd(*curvatures)
            for word in reduced_up_to(4)[::3] + [LONG_WORD]:
                self.assertEqual(gcd(*curvatures_at(curvatures, word)), divisor)

    def test_the_empty_word(self):
        for curvatures in QUADRUPLES:
            self.assertEqual(curvatures_at(list(curvatures), []), curvatures)
            self.assertEqual(curvatures_along(list(curvatures), ()), [curvatures])
            self.assertIs(curvatures_at(list(curvatures), []).__class__, tuple)

    def test_long_words(self):
        made = curvatures_at((-6, 11, 14, 15), LONG_WORD * 5)
        self.assertTrue(is_quadruple(made))
        self.assertGreater(max(made), 10 ** 300)
        self.assertEqual(curvatures_at(made, (LONG_WORD * 5)[::-1]), (-6, 11, 14, 15))

    def test_new_lists_and_the_same_arguments(self):
        curvatures, word = [-1, 2, 2, 3], [2, 4]
        curvatures_at(curvatures, word)
        curvatures_along(curvatures, word).clear()
        self.assertEqual(len(curvatures_along(curvatures, word)), 3)
        self.assertEqual((curvatures, word), ([-1, 2, 2, 3], [2, 4]))


class AlongReducedWords(unittest.TestCase):
    def test_made_curvatures_are_the_greatest(self):
        for root in NEGATIVE_ROOTS:
            curvatures = Four(root).curvatures()
            for word in reduced_up_to(4):
                if word:
                    behind = list(curvatures_at(curvatures, word))
                    made = behind.pop(word[-1] - 1)
                    self.assertGreater(made, max(behind))

    def test_the_sum_grows(self):
        for root in NEGATIVE_ROOTS:
            curvatures = Four(root).curvatures()
            for word in reduced_up_to(4):
                sums = [sum(numbers) for numbers in curvatures_along(curvatures, word)]
                for at in range(len(word)):
                    if at == 0 and 2 * curvatures[word[0] - 1] == sum(curvatures):
                        self.assertEqual(sums[1], sums[0])
                    else:
                        self.assertGreater(sums[at + 1], sums[at])

    def test_all_circles_are_different(self):
        for root in ROOTS:
            made = [circle_at(Four(root), word) for word in reduced_up_to(5) if word]
            self.assertEqual(len(set(made)), len(made))
            self.assertEqual(set(made) & set(root), set())


if __name__ == "__main__":
    unittest.main()
