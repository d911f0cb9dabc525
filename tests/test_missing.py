import unittest
from itertools import permutations
from math import gcd

from fourtouch.circles import is_circle
from fourtouch.errors import InvalidFour, InvalidQuestion, TooMany
from fourtouch.fours import Four
from fourtouch.lists import curvatures_up_to
from fourtouch.missing import (
    common_divisor, least_missing, missing, missing_though_taken, root_quadruple, standing,
)
from fourtouch.remainders import never, taken
from fourtouch.walks import curvatures_at, is_quadruple
from tests.helper import (
    LONG_WORD, NEGATIVE_ROOTS, ROOTS, STRIPS, error_of, great_root, heap_circles, reduced_up_to, walked,
)

BUGS = (-1, 2, 2, 3)
# Curvatures of roots whose greatest one is the sum of the others; the circles of the last ones are none in integers.
SUMS = ((-1, 2, 2, 3), (-2, 3, 6, 7), (-3, 4, 12, 13), (-5, 10, 10, 15), (-10, 14, 35, 39))
NEGATIVES = tuple(Four(root).curvatures() for root in NEGATIVE_ROOTS) + SUMS + ((-2, 4, 4, 6), (-9, 18, 19, 22), (-3, 5, 8, 8))
FLAT = tuple(Four(root).curvatures() for root in STRIPS) + ((0, 0, 5, 5), (9, 0, 0, 9))
NO_FOURS = ((), (-1, 2, 2), (-1, 2, 2, 4), (0, 0, 0, 0), (1, -2, -2, -3), (0, 0, 1, -1), (-1, 2, 2, 3, 3), [1, 1, 1, 1])


def led_down(curvatures):
    """The root by point 85, the greatest exchanged as long as this makes it less."""
    numbers = list(curvatures)
    while True:
        at = numbers.index(max(numbers))
        made = 2 * (sum(numbers) - numbers[at]) - numbers[at]
        if made >= numbers[at]:
            return tuple(numbers)
        assert numbers.count(max(numbers)) == 1
        numbers[at] = made


def counted(root, most):
    """How many circles have each curvature up to a bound: those of a root and those of all reduced words.

    Words are made longer as long as they make a curvature up to the bound at their end.
    """
    counts = {}
    for number in root:
        if number <= most:
            counts[number] = counts.get(number, 0) + 1
    words = [()]
    while words:
        longer = [word + (number,) for word in words for number in (1, 2, 3, 4) if word[-1:] != (number,)]
        words = [word for word in longer if curvatures_at(root, word)[word[-1] - 1] <= most]
        for word in words:
            made = curvatures_at(root, word)[word[-1] - 1]
            counts[made] = counts.get(made, 0) + 1
    return counts


def beside(root, most):
    """How many circles up to a bound there are beside the root."""
    return sum(counted(root, most).values()) - len([number for number in root if number <= most])


class Roots(unittest.TestCase):
    def test_examples(self):
        self.assertEqual(root_quadruple((-1, 6, 2, 11)), (-1, 2, 2, 3))
        self.assertEqual(standing(BUGS, 6), [(-1, 1), (2, 2), (3, 2), (6, 4)])
        self.assertEqual(missing(BUGS, 6), [1, 4, 5])

    def test_roots_stay(self):
        for curvatures in NEGATIVES + FLAT:
            for row in set(permutations(curvatures)):
                self.assertEqual(root_quadruple(row), row)
                self.assertEqual(root_quadruple(list(row)), row)
                self.assertIs(root_quadruple(list(row)).__class__, tuple)

    def test_against_one_exchange_after_another(self):
        for curvatures in NEGATIVES + FLAT:
            for word in reduced_up_to(4)[::2]:
                behind = curvatures_at(curvatures, word)
                told = root_quadruple(behind)
                self.assertEqual(told, led_down(behind))
                self.assertEqual(sorted(told), sorted(curvatures))
                self.assertTrue(is_quadruple(told))
                self.assertLessEqual(2 * max(told), sum(told))

    def test_each_curvature_in_its_place(self):
        self.assertEqual(root_quadruple((15, 2, 2, 3)), (-1, 2, 2, 3))
        self.assertEqual(root_quadruple((2, 3, 15, 2)), (2, 3, -1, 2))
        self.assertEqual(root_quadruple((4, 1, 1, 0)), (0, 1, 1, 0))
        self.assertEqual(root_quadruple((3, 38, 2, 15)), (3, 2, 2, -1))

    def test_long_words(self):
        for root in ROOTS:
            four = walked(Four(root), LONG_WORD * 2)
            self.assertEqual(sorted(root_quadruple(four.curvatures())), sorted(Four(root).curvatures()))
        self.assertEqual(root_quadruple(great_root(10 ** 800).exchanged(1).curvatures()),
                         great_root(10 ** 800).curvatures())

    def test_a_greatest_that_is_the_sum(self):
        for curvatures in SUMS:
            self.assertEqual(2 * max(curvatures), sum(curvatures))
            for row in set(permutations(curvatures)):
                self.assertEqual(root_quadruple(row), row)
                number = row.index(max(row)) + 1
                self.assertEqual(curvatures_at(row, (number,)), row)
                behind = curvatures_at(row, (number, number % 4 + 1, number))
                self.assertEqual(root_quadruple(behind), row)

    def test_many_exchanges(self):
        # Each of the circles between two that touch one another is nearer to the point at which these touch.
        self.assertEqual(root_quadruple(curvatures_at(BUGS, (1, 2) * 3000)), BUGS)

    def test_the_list_stays(self):
        curvatures = [-1, 6, 2, 11]
        for action in (root_quadruple, common_divisor):
            action(curvatures)
        standing(curvatures, 20)
        missing_though_taken(curvatures, 24, 20)
        self.assertEqual(curvatures, [-1, 6, 2, 11])


class Divisors(unittest.TestCase):
    def test_known_ones(self):
        for curvatures, divisor in ((BUGS, 1), ((-2, 4, 4, 6), 2), ((0, 0, 5, 5), 5), ((-10, 20, 20, 30), 10),
                                    ((9, 0, 0, 9), 9), ((-6, 11, 14, 15), 1), ([-4, 8, 8, 12], 4)):
            self.assertEqual(common_divisor(curvatures), divisor)

    def test_the_same_for_all_fours(self):
        for curvatures in NEGATIVES + FLAT:
            divisor = common_divisor(curvatures)
            self.assertEqual(divisor, gcd(*curvatures))
            self.assertGreater(divisor, 0)
            for word in reduced_up_to(3):
                behind = curvatures_at(curvatures, word)
                self.assertEqual(common_divisor(behind), divisor)
                self.assertTrue(all(number % divisor == 0 for number in behind))

    def test_great_ones(self):
        curvatures = [10 ** 5000 * number for number in BUGS]
        self.assertEqual(common_divisor(curvatures), 10 ** 5000)


class Standing(unittest.TestCase):
    def test_against_words(self):
        for curvatures in NEGATIVES:
            for most in (1, 2, 3, 10, max(curvatures) - 1, max(curvatures), 61, 150):
                told = standing(curvatures, most)
                self.assertIs(told.__class__, list)
                self.assertEqual(told, sorted(counted(curvatures, most).items()))
                self.assertTrue(all(row.__class__ is tuple for row in told))
                self.assertEqual(told[0], (min(curvatures), 1))
                numbers = {row[0] for row in told}
                self.assertEqual(missing(curvatures, most), sorted(set(range(1, most + 1)) - numbers))

    def test_against_the_circles(self):
        for root in NEGATIVE_ROOTS:
            four = walked(Four(root), (2, 1))
            for most in (1, 7, 60, 300):
                self.assertEqual(standing(four.curvatures(), most), curvatures_up_to(four, most))

    def test_circles_are_counted_one_by_one(self):
        for root in NEGATIVE_ROOTS:
            circles = heap_circles(Four(root), 6)
            self.assertTrue(all(is_circle(circle) for circle in circles))
            told = dict(standing(Four(root).curvatures(), 40))
            # Behind more than six exchanges no curvature is as small as that.
            for curvature, many in told.items():
                same = [circle for circle in circles if circle[0] == curvature]
                self.assertEqual(len(same), many)
                self.assertEqual(len(set(same)), many)
        self.assertEqual(dict(standing(BUGS, 20))[6], 4)
        self.assertEqual(dict(standing(BUGS, 20))[3], 2)

    def test_all_fours_of_a_heap(self):
        for curvatures in NEGATIVES:
            for most in (1, 30):
                told = standing(curvatures, most)
                for word in ((1,), (4, 3, 2, 1), (2, 4), LONG_WORD[:60]):
                    behind = curvatures_at(curvatures, word)
                    self.assertEqual(standing(behind, most), told)
                    self.assertEqual(standing(list(behind)[::-1], most), told)
                    self.assertEqual(missing(behind, most), missing(curvatures, most))

    def test_a_greatest_that_is_the_sum_stands_twice(self):
        self.assertEqual(standing((-2, 3, 6, 7), 7), [(-2, 1), (3, 1), (6, 1), (7, 2)])
        self.assertEqual(standing((-4, 8, 9, 9), 9), [(-4, 1), (8, 1), (9, 2)])

    def test_the_bound_one(self):
        self.assertEqual(standing(BUGS, 1), [(-1, 1)])
        self.assertEqual(missing(BUGS, 1), [1])
        self.assertEqual(missing_though_taken(BUGS, 1, 1), [1])
        self.assertEqual(missing_though_taken(BUGS, 2, 1), [1])
        self.assertEqual(missing_though_taken(BUGS, 4, 1), [])

    def test_a_root_beyond_the_bound(self):
        curvatures = great_root(10 ** 50).curvatures()
        self.assertEqual(standing(curvatures, 100), [(-10 ** 50, 1)])
        self.assertEqual(missing(curvatures, 3), [1, 2, 3])

    def test_new_lists(self):
        for action, *rest in ((standing, 20), (missing, 20), (missing_though_taken, 24, 20)):
            told = action(BUGS, *rest)
            copy = list(told)
            told.append(None)
            self.assertEqual(action(BUGS, *rest), copy)


class Missing(unittest.TestCase):
    def test_never_taken_is_missing(self):
        for curvatures in NEGATIVES:
            for modulus in (2, 3, 8):
                gone = never(curvatures, modulus)
                numbers = missing(curvatures, 100)
                for number in range(1, 101):
                    if number % modulus in gone:
                        self.assertIn(number, numbers)

    def test_though_taken(self):
        more = 0
        for curvatures in NEGATIVES:
            for modulus in (1, 2, 3, 5, 8, 12):
                for most in (1, 9, 90):
                    remainders = taken(curvatures, modulus)
                    expected = [number for number in missing(curvatures, most) if number % modulus in remainders]
                    told = missing_though_taken(curvatures, modulus, most)
                    self.assertEqual(told, expected)
                    self.assertIs(told.__class__, list)
                    self.assertEqual(least_missing(list(curvatures), modulus, most), expected[0] if expected else None)
                    more += 0 < len(expected) < len(missing(curvatures, most))
        self.assertGreater(more, 20)

    def test_known_ones(self):
        self.assertEqual(missing_though_taken(BUGS, 24, 200), [78, 159])
        self.assertEqual(least_missing(BUGS, 24, 200), 78)
        self.assertEqual(least_missing(BUGS, 24, 78), 78)

    def test_nothing_is_missing(self):
        self.assertEqual(missing_though_taken(BUGS, 24, 77), [])
        self.assertIsNone(least_missing(BUGS, 24, 77))
        self.assertIsNone(least_missing(BUGS, 24, 1))

    def test_the_modulus_one(self):
        for curvatures in NEGATIVES:
            self.assertEqual(missing_though_taken(curvatures, 1, 50), missing(curvatures, 50))
            self.assertEqual(least_missing(curvatures, 1, 50), missing(curvatures, 50)[0])


class Limits(unittest.TestCase):
    def test_one_circle_more_than_the_limit(self):
        for curvatures in NEGATIVES[::2]:
            for most in (1, max(curvatures), 100):
                many = beside(curvatures, most)
                for limit in (many, many + 1, 10 ** 30):
                    self.assertEqual(standing(curvatures, most, limit=limit), standing(curvatures, most))
                    self.assertEqual(missing(curvatures, most, limit=limit), missing(curvatures, most))
                    self.assertEqual(missing_though_taken(curvatures, 1, most, limit=max(limit, 1)),
                                     missing(curvatures, most))
                for limit in {0, many // 2, many - 1} - {many, -1}:
                    for action, *rest in ((standing, most), (missing, most), (missing_though_taken, 1, most),
                                          (least_missing, 1, most)):
                        error = error_of(action, curvatures, *rest, limit=limit)
                        self.assertIs(error.__class__, TooMany, (curvatures, most, limit))
                        self.assertEqual(error.limit, limit)

    def test_the_root_does_not_count(self):
        self.assertEqual(standing(BUGS, 2, limit=0), [(-1, 1), (2, 2)])
        self.assertEqual(standing((-6, 11, 14, 15), 15, limit=0), [(-6, 1), (11, 1), (14, 1), (15, 1)])
        self.assertEqual(standing(BUGS, 3, limit=1), [(-1, 1), (2, 2), (3, 2)])
        self.assertEqual(error_of(standing, BUGS, 3, limit=0).limit, 0)
        # Led down first: the circles of the four that is handed in are none of the root.
        self.assertEqual(standing((-1, 6, 2, 11), 2, limit=0), [(-1, 1), (2, 2)])

    def test_more_tuples_than_the_limit(self):
        for action in (missing_though_taken, least_missing):
            self.assertEqual(error_of(action, BUGS, 10 ** 20, 3).limit, 20000)
            self.assertEqual(error_of(action, BUGS, 8, 2, limit=1).limit, 1)

    def test_without_being_told(self):
        for action, *rest in ((standing, 10 ** 9), (missing, 10 ** 9), (missing_though_taken, 24, 10 ** 9),
                              (least_missing, 24, 10 ** 9)):
            error = error_of(action, BUGS, *rest)
            self.assertIs(error.__class__, TooMany)
            self.assertEqual(error.limit, 20000)


class Errors(unittest.TestCase):
    def errors(self, curvatures, modulus, most, **limit):
        """The classes of the errors of the functions with a bound."""
        return {
            "standing": error_of(standing, curvatures, most, **limit).__class__,
            "missing": error_of(missing, curvatures, most, **limit).__class__,
            "missing_though_taken": error_of(missing_though_taken, curvatures, modulus, most, **limit).__class__,
            "least_missing": error_of(least_missing, curvatures, modulus, most, **limit).__class__,
        }

    def test_no_fours_come_first(self):
        for curvatures in NO_FOURS:
            self.assertIs(error_of(root_quadruple, curvatures).__class__, InvalidFour)
            self.assertIs(error_of(common_divisor, curvatures).__class__, InvalidFour)
            for modulus in (1, 0, -4):
                for most in (5, 0, -1):
                    self.assertEqual(set(self.errors(curvatures, modulus, most, limit=0).values()), {InvalidFour})

    def test_no_modulus(self):
        for modulus in (0, -1, -10 ** 30):
            for most in (5, 10 ** 9):
                errors = self.errors(BUGS, modulus, most, limit=0)
                self.assertIs(errors["missing_though_taken"], InvalidQuestion)
                self.assertIs(errors["least_missing"], InvalidQuestion)
                self.assertIs(errors["standing"], TooMany)

    def test_strips(self):
        for curvatures in FLAT:
            for word in ((), (1,), (3, 1, 2), LONG_WORD[:30]):
                behind = curvatures_at(curvatures, word)
                for most in (1, 100, 0):
                    self.assertEqual(set(self.errors(behind, 3, most, limit=0).values()), {InvalidQuestion})
                self.assertIsNone(error_of(root_quadruple, behind))
                self.assertIsNone(error_of(common_divisor, behind))

    def test_no_bound(self):
        for curvatures in NEGATIVES:
            for most in (0, -1, -5, -10 ** 30):
                self.assertEqual(set(self.errors(curvatures, 3, most, limit=0).values()), {InvalidQuestion})


if __name__ == "__main__":
    unittest.main()
