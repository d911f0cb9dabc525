import unittest
from itertools import permutations

from fourtouch.errors import InvalidFour, InvalidQuestion, InvalidWord
from fourtouch.fours import Four
from fourtouch.matrices import (
    applied, curvatures_after, curvatures_modulo, matrix_of, power, power_modulo, product, word_of,
)
from fourtouch.walks import curvatures_at
from fourtouch.words import reduced
from tests.helper import LONG_WORD, ROOTS, error_of, reduced_up_to, walked, words_up_to

IDENTITY = ((1, 0, 0, 0), (0, 1, 0, 0), (0, 0, 1, 0), (0, 0, 0, 1))
PLAIN = ((1, 2, 3, 4), (5, 6, 7, 8), (-9, 1, 0, 2), (0, 3, -1, 1))
OTHER = ((0, 1, 0, 2), (3, 0, -1, 1), (2, 2, 2, -1), (1, 0, 0, 5))
NO_WORDS = ((0,), (5,), (1, 2, -1), (True,), (2, True), ("1",), (None,))


def as_list(matrix):
    return [list(row) for row in matrix]


def product_seen(one, other):
    places = range(4)
    return tuple(tuple(sum(one[i][k] * other[k][j] for k in places) for j in places) for i in places)


def times_seen(matrix, times):
    answer = IDENTITY
    for _ in range(times):
        answer = product_seen(answer, matrix)
    return answer


def modulo(rows, modulus):
    return tuple(tuple(number % modulus for number in row) for row in rows)


class MatricesOfWords(unittest.TestCase):
    def test_examples(self):
        self.assertEqual(matrix_of((4,)), ((1, 0, 0, 0), (0, 1, 0, 0), (0, 0, 1, 0), (2, 2, 2, -1)))
        self.assertIsNone(word_of(((1, 0, 0, 0), (0, 1, 0, 0), (2, 2, 2, -1), (0, 0, 1, 0))))
        self.assertEqual(curvatures_modulo((-1, 2, 2, 3), (2, 4), 1, 10), (9, 6, 2, 1))

    def test_no_exchange_and_one(self):
        self.assertEqual(matrix_of(()), IDENTITY)
        self.assertEqual(matrix_of([]), IDENTITY)
        for number in (1, 2, 3, 4):
            expected = as_list(IDENTITY)
            expected[number - 1] = [2, 2, 2, 2]
            expected[number - 1][number - 1] = -1
            self.assertEqual(as_list(matrix_of([number])), expected)

    def test_kinds(self):
        for word in ((), [1, 2], (3, 3, 4)):
            matrix = matrix_of(word)
            self.assertIs(matrix.__class__, tuple)
            for row in matrix:
                self.assertIs(row.__class__, tuple)

    def test_all_parts_of_circles(self):
        for root in ROOTS:
            for word in words_up_to(3)[::2]:
                matrix = matrix_of(list(word))
                behind = walked(Four(root), word).circles
                for part in range(4):
                    numbers = [circle[part] for circle in root]
                    self.assertEqual(applied(matrix, numbers), tuple(circle[part] for circle in behind))

    def test_behind_one_another(self):
        some = words_up_to(3)[::3]
        for one in some:
            for other in some:
                self.assertEqual(matrix_of(one + other), product(matrix_of(other), matrix_of(one)))

    def test_columns_below_0(self):
        for word in reduced_up_to(5):
            matrix = matrix_of(word)
            below = [at + 1 for at in range(4) if any(row[at] < 0 for row in matrix)]
            self.assertEqual(below, list(word[:1]))
            if word:
                self.assertLess(sum(map(sum, matrix_of(word[1:]))), sum(map(sum, matrix)))

    def test_no_words(self):
        for word in NO_WORDS:
            self.assertIs(error_of(matrix_of, word).__class__, InvalidWord)
            self.assertIs(error_of(matrix_of, list(word)).__class__, InvalidWord)


class Products(unittest.TestCase):
    def test_products(self):
        for one in (PLAIN, OTHER, IDENTITY, matrix_of((1, 2, 3))):
            for other in (PLAIN, OTHER, IDENTITY, matrix_of((4, 2))):
                self.assertEqual(product(one, other), product_seen(one, other))
        self.assertNotEqual(product(PLAIN, OTHER), product(OTHER, PLAIN))

    def test_applied(self):
        numbers = (10, -20, 30, 7)
        expected = tuple(sum(row[at] * numbers[at] for at in range(4)) for row in PLAIN)
        self.assertEqual(applied(PLAIN, numbers), expected)
        self.assertEqual(applied(PLAIN, list(numbers)), expected)
        self.assertEqual(applied(IDENTITY, numbers), numbers)
        self.assertIs(applied(PLAIN, list(numbers)).__class__, tuple)
        self.assertEqual(applied(product(PLAIN, OTHER), numbers), applied(PLAIN, applied(OTHER, numbers)))

    def test_powers(self):
        for matrix in (PLAIN, OTHER, IDENTITY, matrix_of((1, 2, 3)), matrix_of((4,))):
            for times in range(0, 12):
                self.assertEqual(power(matrix, times), times_seen(matrix, times), times)
                for modulus in (1, 2, 7, 10 ** 30):
                    expected = modulo(times_seen(matrix, times), modulus)
                    self.assertEqual(power_modulo(matrix, times, modulus), expected)

    def test_kinds(self):
        for answer in (power(PLAIN, 0), power(PLAIN, 1), power(PLAIN, 3), power_modulo(PLAIN, 0, 5),
                       power_modulo(PLAIN, 1, 5), power_modulo(PLAIN, 3, 5), product(PLAIN, OTHER)):
            self.assertIs(answer.__class__, tuple)
            for row in answer:
                self.assertIs(row.__class__, tuple)
                self.assertEqual(len(row), 4)

    def test_powers_are_words_in_a_row(self):
        for word in reduced_up_to(3)[::2]:
            for times in (0, 1, 2, 5):
                self.assertEqual(power(matrix_of(word), times), matrix_of(word * times))

    def test_great_numbers_of_times(self):
        great = 10 ** 30 - 1
        # Two circles that are exchanged in turn grow so slowly that the power itself can be told.
        matrix = power(matrix_of((1, 2)), great)
        self.assertEqual(matrix[2:], IDENTITY[2:])
        self.assertEqual(matrix[0][:2], (1 - 2 * great, 2 * great))
        self.assertEqual(matrix[1][:2], (-2 * great, 1 + 2 * great))
        self.assertEqual(power_modulo(matrix_of((1, 2)), great, 10 ** 9), modulo(matrix, 10 ** 9))
        self.assertEqual(power(matrix_of((3,)), great), matrix_of((3,)))
        self.assertEqual(power(matrix_of((3,)), great - 1), IDENTITY)

    def test_remainders_of_great_powers(self):
        word = (1, 2, 3, 4, 2)
        matrix = matrix_of(word)
        for modulus in (2, 5, 12, 97):
            powers = [modulo(IDENTITY, modulus)]
            while len(powers) == 1 or powers[-1] != powers[0]:
                powers.append(modulo(product_seen(powers[-1], matrix), modulus))
            period = len(powers) - 1
            for times in (10 ** 29, 10 ** 30 - 1, 3 * 10 ** 29 + 7):
                self.assertEqual(power_modulo(matrix, times, modulus), powers[times % period])

    def test_below_0(self):
        for times in (-1, -10 ** 30):
            self.assertIs(error_of(power, PLAIN, times).__class__, InvalidQuestion)
            self.assertIs(error_of(power_modulo, PLAIN, times, 5).__class__, InvalidQuestion)
        for modulus in (0, -1, -7):
            self.assertIs(error_of(power_modulo, PLAIN, 3, modulus).__class__, InvalidQuestion)
            self.assertIs(error_of(power_modulo, PLAIN, 0, modulus).__class__, InvalidQuestion)

    def test_arguments_stay_as_they_are(self):
        one, other, numbers = as_list(PLAIN), as_list(OTHER), [1, 2, 3, 4]
        self.assertEqual(product(one, other), product(PLAIN, OTHER))
        self.assertEqual(power(one, 3), power(PLAIN, 3))
        self.assertEqual(power_modulo(one, 3, 4), power_modulo(PLAIN, 3, 4))
        applied(one, numbers)
        self.assertIsNone(word_of(one))
        self.assertEqual((one, other, numbers), (as_list(PLAIN), as_list(OTHER), [1, 2, 3, 4]))


class CurvaturesAfterWords(unittest.TestCase):
    def test_after(self):
        for curvatures in ((-1, 2, 2, 3), (0, 0, 1, 1), (-3, 6, 6, 9), (0, 0, 3, 3)):
            for word in reduced_up_to(2) + [(1, 2, 3, 1), (1, 1)]:
                for times in range(5):
                    expected = curvatures_at(curvatures, word * times)
                    made = curvatures_after(list(curvatures), list(word), times)
                    self.assertEqual(made, expected)
                    self.assertIs(made.__class__, tuple)
                    for modulus in (1, 2, 24, 10 ** 12):
                        made = curvatures_modulo(list(curvatures), list(word), times, modulus)
                        self.assertEqual(made, tuple(number % modulus for number in expected))
                        self.assertIs(made.__class__, tuple)

    def test_great_numbers_of_times(self):
        great = 10 ** 30
        self.assertEqual(curvatures_after((-1, 2, 2, 3), (3,), great + 1), (-1, 2, 6, 3))
        self.assertEqual(curvatures_after((-1, 2, 2, 3), (3, 1, 1, 3), great), (-1, 2, 2, 3))
        made = curvatures_after((-1, 2, 2, 3), (1, 2), great)
        self.assertEqual(made[2:], (2, 3))
        self.assertGreater(made[1], great ** 2)
        self.assertEqual(sum(made) ** 2, 2 * sum(number * number for number in made))
        expected = tuple(number % 360 for number in made)
        self.assertEqual(curvatures_modulo((-1, 2, 2, 3), (1, 2), great, 360), expected)
        once = curvatures_modulo((-1, 2, 2, 3), (1, 2, 3, 4), great, 10 ** 40)
        self.assertEqual((sum(once) ** 2 - 2 * sum(number * number for number in once)) % 10 ** 40, 0)

    def test_errors_come_in_order(self):
        no_quadruples = ((0, 0, 0, 0), (-1, 2, 2, 4), (-1, 2, 2), (1, -2, -2, -3), (-1, 2, 2, 3, 0))
        for curvatures in no_quadruples:
            for word in NO_WORDS + ((1, 2),):
                for times in (-1, 2):
                    error = error_of(curvatures_after, curvatures, word, times)
                    self.assertIs(error.__class__, InvalidFour)
                    for modulus in (0, 5):
                        error = error_of(curvatures_modulo, curvatures, word, times, modulus)
                        self.assertIs(error.__class__, InvalidFour)
        for word in NO_WORDS:
            for times in (-1, 2):
                error = error_of(curvatures_after, (-1, 2, 2, 3), word, times)
                self.assertIs(error.__class__, InvalidWord)
                for modulus in (0, 5):
                    error = error_of(curvatures_modulo, (-1, 2, 2, 3), word, times, modulus)
                    self.assertIs(error.__class__, InvalidWord)

    def test_questions(self):
        for word in ((), (1,), (1, 2)):
            self.assertIs(error_of(curvatures_after, (-1, 2, 2, 3), word, -1).__class__, InvalidQuestion)
            for times, modulus in ((-1, 5), (2, 0), (2, -5), (-1, 0)):
                error = error_of(curvatures_modulo, (-1, 2, 2, 3), word, times, modulus)
                self.assertIs(error.__class__, InvalidQuestion)

    def test_arguments_stay_as_they_are(self):
        curvatures, word = [-1, 2, 2, 3], [2, 4, 4]
        curvatures_after(curvatures, word, 3)
        curvatures_modulo(curvatures, word, 3, 10)
        matrix_of(word)
        self.assertEqual((curvatures, word), ([-1, 2, 2, 3], [2, 4, 4]))


class WordsOfMatrices(unittest.TestCase):
    def test_words(self):
        for word in reduced_up_to(5):
            found = word_of(matrix_of(word))
            self.assertEqual(found, word)
            self.assertIs(found.__class__, tuple)
        self.assertEqual(word_of(IDENTITY), ())
        self.assertEqual(word_of(as_list(IDENTITY)), ())
        for word in words_up_to(4):
            self.assertEqual(word_of(matrix_of(word)), reduced(word))

    def test_long_words(self):
        self.assertEqual(word_of(matrix_of(LONG_WORD)), reduced(LONG_WORD))
        self.assertEqual(word_of(power(matrix_of((1, 2)), 300)), (1, 2) * 300)

    def test_one_number_changed(self):
        known = {matrix_of(word): word for word in reduced_up_to(4)}
        for word in reduced_up_to(2) + [(1, 2, 3, 4, 1, 2), (1, 2, 1, 2, 1, 2), (3, 1, 4, 2, 3)]:
            for row in range(4):
                for column in range(4):
                    for step in (-100, -2, -1, 1, 2, 100):
                        changed = as_list(matrix_of(word))
                        changed[row][column] += step
                        changed = tuple(map(tuple, changed))
                        self.assertEqual(word_of(changed), known.get(changed), (word, changed))

    def test_rows_exchanged(self):
        for word in reduced_up_to(3) + [LONG_WORD]:
            matrix = matrix_of(word)
            for rows in permutations(matrix):
                self.assertEqual(word_of(rows), reduced(word) if rows == matrix else None)

    def test_all_signs_turned(self):
        for word in reduced_up_to(4) + [LONG_WORD]:
            turned = tuple(tuple(-number for number in row) for row in matrix_of(word))
            self.assertIsNone(word_of(turned))

    def test_other_matrices(self):
        zero = ((0,) * 4,) * 4
        ones = ((1,) * 4,) * 4
        double = tuple(tuple(2 * number for number in row) for row in IDENTITY)
        for matrix in (zero, ones, double, PLAIN, OTHER, ((-1, 0, 0, 0),) * 4, ((-1, 9, 9, 9),) * 4,
                       ((-10 ** 30, 1, 10 ** 40, 1),) * 4, matrix_of((1,))[::-1], product(matrix_of((1, 2)), double)):
            self.assertIsNone(word_of(matrix), matrix)


if __name__ == "__main__":
    unittest.main()
