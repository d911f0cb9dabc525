import unittest
from itertools import product

from fourtouch.errors import InvalidFour, InvalidQuestion, InvalidWord, TooMany
from fourtouch.fours import Four
from fourtouch.remainders import (
    check_closed, check_witness, closed_list, never, shows_never, taken, witness,
)
from fourtouch.walks import curvatures_at
from tests.helper import LONG_WORD, ROOTS, error_of, great_root, reduced_up_to, walked, words_up_to

BUGS = (-1, 2, 2, 3)
FOURS = tuple(Four(root).curvatures() for root in ROOTS) + (
    (-1, 6, 2, 11), (15, 38, 2, 3), (-4, 8, 8, 12), (0, 0, 5, 5), (3, 3, 0, 0), (-2, 4, 4, 6),
    great_root(10 ** 50).curvatures(), walked(Four(ROOTS[1]), LONG_WORD[:100]).curvatures(),
)
MODULI = (1, 2, 3, 4, 5, 6, 8, 9, 12)
NO_FOURS = ((), (-1, 2, 2), (-1, 2, 2, 4), (0, 0, 0, 0), (1, -2, -2, -3), (0, 0, 1, -1), (-1, 2, 2, 3, 3), [1, 1, 1, 1])
NO_WORDS = ((0,), (5,), (1, True), ["2"], (None,), (1, 2, -3))


def exchanged(row, number, modulus):
    """What an exchange makes of four remainders."""
    others = sum(row) - row[number - 1]
    behind = list(row)
    behind[number - 1] = (2 * others - row[number - 1]) % modulus
    return tuple(behind)


def searched(curvatures, modulus):
    """The least closed list as a set, by taking exchanges until nothing new comes."""
    found = {tuple(number % modulus for number in curvatures)}
    while True:
        more = {exchanged(row, number, modulus) for row in found for number in (1, 2, 3, 4)}
        if more <= found:
            return found
        found |= more


def first_witnesses(curvatures, modulus, length):
    """For each remainder the first of the shortest words, up to a length, at which some curvature has it."""
    found = {}
    rows = [((), tuple(number % modulus for number in curvatures))]
    for _ in range(length + 1):
        for word, row in rows:
            for remainder in row:
                found.setdefault(remainder, word)
        rows = [(word + (number,), exchanged(row, number, modulus)) for word, row in rows for number in (1, 2, 3, 4)]
    return found


class Closed(unittest.TestCase):
    def test_examples(self):
        self.assertEqual(closed_list((0, 0, 1, 1), 2), [(0, 0, 1, 1)])
        self.assertEqual(never(BUGS, 4), [0, 1])
        self.assertEqual(witness(BUGS, 8, 6), (2,))
        self.assertIsNone(witness(BUGS, 8, 0))

    def test_against_a_search(self):
        for curvatures in FOURS:
            for modulus in MODULI:
                told = closed_list(curvatures, modulus)
                self.assertIs(told.__class__, list)
                self.assertEqual(told, sorted(searched(curvatures, modulus)))
                self.assertEqual(told, closed_list(list(curvatures), modulus))
                self.assertTrue(all(row.__class__ is tuple for row in told))

    def test_it_has_the_remainders_of_all_fours_at_words(self):
        for curvatures in FOURS[::3]:
            for modulus in (2, 3, 4):
                rows = {tuple(number % modulus for number in curvatures_at(curvatures, word))
                        for word in words_up_to(5)}
                self.assertLessEqual(rows, set(closed_list(curvatures, modulus)))
                self.assertLess(len(rows), 4 ** 4)

    def test_all_fours_of_a_heap(self):
        for curvatures in FOURS[::2]:
            for modulus in (5, 6):
                told = closed_list(curvatures, modulus)
                for word in reduced_up_to(2):
                    self.assertEqual(closed_list(curvatures_at(curvatures, word), modulus), told)

    def test_the_modulus_one(self):
        for curvatures in FOURS:
            self.assertEqual(closed_list(curvatures, 1), [(0, 0, 0, 0)])
            self.assertEqual(taken(curvatures, 1), [0])
            self.assertEqual(never(curvatures, 1), [])
            self.assertEqual(witness(curvatures, 1, 0), ())

    def test_great_moduli_of_fours_with_few_remainders(self):
        self.assertEqual(closed_list((0, 0, 7, 7), 7), [(0, 0, 0, 0)])
        self.assertEqual(taken((0, 0, 10 ** 30, 10 ** 30), 2 * 10 ** 30), [0, 10 ** 30])

    def test_new_lists(self):
        for action in (closed_list, taken, never):
            told = action(BUGS, 8)
            copy = list(told)
            told.append(None)
            self.assertEqual(action(BUGS, 8), copy)


class CheckingClosed(unittest.TestCase):
    def test_the_least_list(self):
        for curvatures in FOURS:
            for modulus in MODULI[:7]:
                told = closed_list(curvatures, modulus)
                self.assertIs(check_closed(curvatures, modulus, told), True)
                self.assertIs(check_closed(list(curvatures), modulus, told[::-1]), True)
                self.assertIs(check_closed(curvatures, modulus, [list(row) for row in told]), True)
                self.assertIs(check_closed(curvatures, modulus, told[1:] + told), True)
                self.assertIs(check_closed(curvatures, modulus, told + [list(told[-1])]), True)

    def test_one_left_out(self):
        for curvatures in FOURS[::2]:
            for modulus in (2, 3, 4, 5):
                told = closed_list(curvatures, modulus)
                for at in range(len(told)):
                    self.assertIs(check_closed(curvatures, modulus, told[:at] + told[at + 1:]), False)
        self.assertIs(check_closed(BUGS, 1, []), False)
        self.assertIs(check_closed(BUGS, 5, []), False)

    def test_one_put_in(self):
        results = set()
        for curvatures in (BUGS, (0, 0, 1, 1), (-4, 8, 9, 9)):
            for modulus in (2, 3, 4):
                told = closed_list(curvatures, modulus)
                for row in product(range(modulus), repeat=4):
                    right = row in told or all(exchanged(row, at, modulus) in told + [row] for at in (1, 2, 3, 4))
                    self.assertIs(check_closed(curvatures, modulus, told + [row]), right)
                    results.add(right and row not in told)
        self.assertEqual(results, {True, False})

    def test_a_greater_list(self):
        for modulus in (1, 2, 3, 4):
            rows = list(product(range(modulus), repeat=4))
            for curvatures in FOURS[::3]:
                self.assertIs(check_closed(curvatures, modulus, rows), True)
                two = closed_list(curvatures, modulus) + closed_list(FOURS[4], modulus)
                self.assertIs(check_closed(curvatures, modulus, two), True)

    def test_rows_of_another_length(self):
        told = closed_list(BUGS, 3)
        for wrong in ((), (0,), (0, 0, 0), (0, 0, 0, 0, 0), told[0][:3], told[0] + (0,), told[0] * 2, []):
            for rows in (told + [wrong], [wrong] + told, told[:2] + [wrong] + told[2:], [wrong]):
                self.assertIs(check_closed(BUGS, 3, rows), False)

    def test_numbers_that_are_no_remainders(self):
        for modulus in (1, 2, 3, 5):
            told = closed_list(BUGS, modulus)
            for row in (told[0], told[-1]):
                for at in range(4):
                    for wrong in (-1, modulus, modulus + row[at], row[at] - modulus, 10 ** 30):
                        changed = row[:at] + (wrong,) + row[at + 1:]
                        self.assertIs(check_closed(BUGS, modulus, told + [changed]), False)
        # Closed under exchanges, but not made of remainders.
        self.assertIs(check_closed((0, 0, 1, 1), 2, [(0, 0, 1, 1), (2, 2, 3, 3)]), False)
        self.assertIs(check_closed((0, 0, 2, 2), 2, [(0, 0, 2, 2)]), False)

    def test_the_list_of_another_four(self):
        self.assertIs(check_closed((0, 0, 1, 1), 4, closed_list(BUGS, 4)), False)
        for one in FOURS:
            for other in FOURS[::2]:
                for modulus in (3, 4):
                    row = tuple(number % modulus for number in one)
                    told = closed_list(other, modulus)
                    self.assertIs(check_closed(one, modulus, told), row in told)

    def test_what_is_told_stays(self):
        told = [list(row) for row in closed_list(BUGS, 4)]
        copy = [list(row) for row in told]
        curvatures = list(BUGS)
        check_closed(curvatures, 4, told)
        shows_never(curvatures, 4, 0, told)
        self.assertEqual(told, copy)
        self.assertEqual(curvatures, list(BUGS))


class TakenAndNever(unittest.TestCase):
    def test_against_a_search(self):
        for curvatures in FOURS:
            for modulus in MODULI:
                numbers = {number for row in searched(curvatures, modulus) for number in row}
                self.assertEqual(taken(curvatures, modulus), sorted(numbers))
                self.assertEqual(never(list(curvatures), modulus), sorted(set(range(modulus)) - numbers))

    def test_known_ones(self):
        self.assertEqual(taken(BUGS, 24), [2, 3, 6, 11, 14, 15, 18, 23])
        self.assertEqual(taken((-6, 11, 14, 15), 24), [2, 3, 6, 11, 14, 15, 18, 23])
        self.assertEqual(taken((0, 0, 1, 1), 24), [0, 1, 4, 9, 12, 16])
        self.assertEqual(never((0, 0, 1, 1), 3), [2])

    def test_shown_by_the_closed_list(self):
        for curvatures in FOURS[::2]:
            for modulus in (2, 3, 4, 8):
                told = closed_list(curvatures, modulus)
                gone = never(curvatures, modulus)
                for remainder in range(modulus):
                    self.assertIs(shows_never(curvatures, modulus, remainder, told), remainder in gone)
                    self.assertIs(shows_never(curvatures, modulus, remainder, told[1:]), False)
                    rows = [list(row) for row in told[::-1]]
                    self.assertIs(shows_never(curvatures, modulus, remainder, rows), remainder in gone)

    def test_lists_that_show_nothing(self):
        told = closed_list(BUGS, 4)
        self.assertIs(shows_never(BUGS, 4, 0, told), True)
        self.assertIs(shows_never(BUGS, 4, 0, []), False)
        self.assertIs(shows_never(BUGS, 4, 0, told + [(0, 0, 0, 0)]), False)
        self.assertIs(shows_never(BUGS, 4, 1, told + [(0, 0, 0, 0)]), True)
        self.assertIs(shows_never(BUGS, 4, 0, told + [(3, 3, 3)]), False)
        self.assertIs(shows_never(BUGS, 4, 0, told + [(4, 2, 2, 3)]), False)
        self.assertIs(shows_never(BUGS, 4, 0, list(product(range(4), repeat=4))), False)
        self.assertIs(shows_never((0, 0, 1, 1), 4, 2, told), False)


class Witnesses(unittest.TestCase):
    def test_against_all_words(self):
        lengths = set()
        for curvatures in FOURS:
            for modulus in MODULI[:7]:
                gone = never(curvatures, modulus)
                first = first_witnesses(curvatures, modulus, 4)
                for remainder in range(modulus):
                    told = witness(curvatures, modulus, remainder)
                    if remainder in gone:
                        self.assertIsNone(told)
                        continue
                    self.assertIs(told.__class__, tuple)
                    self.assertEqual(told, first[remainder])
                    lengths.add(len(told))
                    self.assertIs(check_witness(curvatures, modulus, remainder, told), True)
        self.assertLessEqual({0, 1, 2}, lengths)

    def test_longer_ones(self):
        lengths = set()
        for curvatures, modulus in ((BUGS, 17), ((0, 0, 1, 1), 23)):
            first = first_witnesses(curvatures, modulus, 6)
            for remainder in taken(curvatures, modulus):
                told = witness(list(curvatures), modulus, remainder)
                lengths.add(len(told))
                self.assertEqual(told, first[remainder])
        self.assertLessEqual({3, 4, 5, 6}, lengths)

    def test_at_the_beginning(self):
        for curvatures in FOURS:
            for modulus in MODULI:
                for number in curvatures:
                    self.assertEqual(witness(curvatures, modulus, number % modulus), ())

    def test_checking(self):
        for curvatures in FOURS[::2]:
            for modulus in (1, 3, 8):
                for word in words_up_to(3)[::3] + [LONG_WORD, list(LONG_WORD[:77])]:
                    numbers = {number % modulus for number in curvatures_at(curvatures, word)}
                    for remainder in range(modulus):
                        told = check_witness(curvatures, modulus, remainder, word)
                        self.assertIs(told, remainder in numbers)
                        self.assertIs(check_witness(list(curvatures), modulus, remainder, list(word)), told)

    def test_words_that_are_not_the_first_one(self):
        self.assertEqual(witness(BUGS, 8, 6), (2,))
        for word in ((3,), (2, 1, 1), (2, 4, 2, 4, 4, 2, 4), (3, 1)):
            self.assertIs(check_witness(BUGS, 8, 6, word), True, word)
        for word in ((), (1,), (4,), (2, 2), (1, 4)):
            self.assertIs(check_witness(BUGS, 8, 6, word), False, word)


class Limits(unittest.TestCase):
    def test_one_more_than_the_limit(self):
        for curvatures in FOURS[::2]:
            for modulus in (1, 2, 5, 8):
                many = len(closed_list(curvatures, modulus))
                for limit in (many, many + 1, 10 ** 30):
                    self.assertEqual(len(closed_list(curvatures, modulus, limit=limit)), many)
                    self.assertEqual(taken(curvatures, modulus, limit=limit), taken(curvatures, modulus))
                    self.assertEqual(never(curvatures, modulus, limit=limit), never(curvatures, modulus))
                    self.assertIsNone(error_of(witness, curvatures, modulus, 0, limit=limit))
                for limit in {0, many // 2, many - 1}:
                    for action in (closed_list, taken, never):
                        error = error_of(action, curvatures, modulus, limit=limit)
                        self.assertIs(error.__class__, TooMany)
                        self.assertEqual(error.limit, limit)

    def test_witnesses_among_the_first_ones(self):
        many = len(closed_list(BUGS, 8))
        for remainder in range(8):
            for limit in (0, 1, many - 1):
                error = error_of(witness, BUGS, 8, remainder, limit=limit)
                self.assertIs(error.__class__, TooMany)
                self.assertEqual(error.limit, limit)
        self.assertEqual(witness(BUGS, 8, 2, limit=many), ())

    def test_without_being_told(self):
        for action in (closed_list, taken, never):
            error = error_of(action, BUGS, 10 ** 20)
            self.assertIs(error.__class__, TooMany)
            self.assertEqual(error.limit, 20000)
        self.assertEqual(error_of(witness, BUGS, 10 ** 20, 2).limit, 20000)
        self.assertEqual(len(closed_list(BUGS, 23)), len(searched(BUGS, 23)))


class Errors(unittest.TestCase):
    def calls(self, curvatures, modulus, remainder=0, word=(), **limit):
        """The classes of the errors of all functions."""
        told = [(0, 0, 0, 0)]
        return {
            "closed_list": error_of(closed_list, curvatures, modulus, **limit).__class__,
            "taken": error_of(taken, curvatures, modulus, **limit).__class__,
            "never": error_of(never, curvatures, modulus, **limit).__class__,
            "check_closed": error_of(check_closed, curvatures, modulus, told).__class__,
            "witness": error_of(witness, curvatures, modulus, remainder, **limit).__class__,
            "check_witness": error_of(check_witness, curvatures, modulus, remainder, word).__class__,
            "shows_never": error_of(shows_never, curvatures, modulus, remainder, told).__class__,
        }

    def test_no_fours_come_first(self):
        for curvatures in NO_FOURS:
            for modulus in (5, 0, -3):
                for remainder in (0, -1, 5):
                    for word in ((),) + NO_WORDS[:2]:
                        errors = self.calls(curvatures, modulus, remainder, word, limit=0)
                        self.assertEqual(set(errors.values()), {InvalidFour})

    def test_no_modulus(self):
        for modulus in (0, -1, -8, -10 ** 30):
            for remainder in (0, 1, -1):
                for word in ((),) + NO_WORDS[:2]:
                    errors = self.calls(BUGS, modulus, remainder, word, limit=0)
                    self.assertEqual(set(errors.values()), {InvalidQuestion})

    def test_no_remainder(self):
        for modulus, remainder in ((1, 1), (1, -1), (5, 5), (5, 6), (5, -1), (5, -5), (8, 10 ** 30), (8, -10 ** 30)):
            for word in ((),) + NO_WORDS:
                errors = self.calls(BUGS, modulus, remainder, word, limit=0)
                self.assertEqual([errors[name] for name in ("witness", "check_witness", "shows_never")],
                                 [InvalidQuestion] * 3)
                self.assertIs(errors["closed_list"], TooMany)

    def test_no_words(self):
        for word in NO_WORDS:
            for modulus in (1, 8):
                self.assertIs(error_of(check_witness, BUGS, modulus, 0, word).__class__, InvalidWord)

    def test_nothing_is_wrong(self):
        self.assertEqual(set(self.calls(BUGS, 8, 7, (1, 2)).values()), {None.__class__})
        # Strips and fours that no circles have can be asked about.
        self.assertEqual(set(self.calls((0, 0, 1, 1), 8, 7, (1, 2)).values()), {None.__class__})
        self.assertEqual(set(self.calls((-5, 10, 10, 15), 8, 7, (1, 2)).values()), {None.__class__})


if __name__ == "__main__":
    unittest.main()
