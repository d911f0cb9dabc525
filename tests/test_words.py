import unittest

from fourtouch.errors import InvalidQuestion, InvalidWord, TooMany
from fourtouch.fours import Four
from fourtouch.words import (
    backwards, check_word, core_of, is_reduced, joined, order_of, reduced, repeated, word_count, words_of,
)
from tests.helper import ROOTS, all_reduced, all_words, bugeye, error_of, reduced_up_to, walked, words_up_to

NO_WORDS = (
    (0,), (5,), (-1,), (1, 2, 0), (1, 2, 3, 4, 5), (True,), (1, True), (False,), ("1",), (None,), ((1,),), ([1],),
    (1.0,), (10 ** 40,), ("",),
)


def reduced_slowly(word):
    """Pairs of equal numbers are left out, the last one first, as often as there are some."""
    word = list(word)
    pairs = [at for at in range(len(word) - 1) if word[at] == word[at + 1]]
    while pairs:
        at = pairs[-1]
        word = word[:at] + word[at + 2:]
        pairs = [at for at in range(len(word) - 1) if word[at] == word[at + 1]]
    return tuple(word)


class WhatIsAWord(unittest.TestCase):
    def test_words(self):
        for word in words_up_to(3):
            self.assertIsNone(check_word(word))
            self.assertIsNone(check_word(list(word)))

    def test_no_words(self):
        for none in NO_WORDS:
            for word in (none, list(none)):
                for action in (check_word, is_reduced, reduced, backwards, core_of, order_of):
                    self.assertIs(error_of(action, word).__class__, InvalidWord, (action, word))
                self.assertIs(error_of(joined, word, ()).__class__, InvalidWord)
                self.assertIs(error_of(joined, (), word).__class__, InvalidWord)
                for times in (-1, 0, 1, 5):
                    self.assertIs(error_of(repeated, word, times).__class__, InvalidWord)

    def test_something_else_than_a_tuple_or_list(self):
        for none in (None, 1, "", "12", {}, {1: 2}):
            for action in (check_word, is_reduced, reduced, backwards, core_of, order_of):
                self.assertIs(error_of(action, none).__class__, InvalidWord, none)
            self.assertIs(error_of(joined, none, (1,)).__class__, InvalidWord, none)
            self.assertIs(error_of(joined, (1,), none).__class__, InvalidWord, none)
            self.assertIs(error_of(repeated, none, 2).__class__, InvalidWord, none)

    def test_a_word_that_is_none_comes_ahead_of_the_limit(self):
        self.assertIs(error_of(repeated, (1, 2, 3, 9), 5, limit=0).__class__, InvalidWord)

    def test_arguments_stay_as_they_are(self):
        word, other = [1, 2, 2, 3, 1], [1, 4]
        for action in (check_word, is_reduced, reduced, backwards, core_of, order_of):
            action(word)
        joined(word, other)
        repeated(word, -3)
        self.assertEqual((word, other), ([1, 2, 2, 3, 1], [1, 4]))


class Reduced(unittest.TestCase):
    def test_example(self):
        self.assertEqual(joined((1, 2, 3), (3, 2, 4)), (1, 4))

    def test_reduced_words(self):
        for word in words_up_to(6):
            short = reduced(word)
            self.assertEqual(short, reduced_slowly(word))
            self.assertIs(short.__class__, tuple)
            self.assertIs(is_reduced(word), short == word)
            self.assertIs(is_reduced(short), True)
            self.assertEqual(reduced(list(word)), short)

    def test_same_four(self):
        for word in words_up_to(5)[::7]:
            self.assertEqual(walked(bugeye(), word).circles, walked(bugeye(), reduced(word)).circles)

    def test_deep_pairs(self):
        word = (1, 2, 3, 4) * 500
        self.assertEqual(reduced(word + word[::-1]), ())
        self.assertEqual(reduced((4,) + word + word[::-1] + (3,)), (4, 3))
        self.assertEqual(reduced((1, 1, 1)), (1,))
        self.assertEqual(reduced([2] * 1000), ())

    def test_joined(self):
        some = words_up_to(3)
        for one in some[::3]:
            for other in some[::5]:
                self.assertEqual(joined(one, other), reduced(one + other))
                self.assertEqual(joined(list(one), other), reduced(one + other))
                self.assertEqual(joined(one, list(other)), reduced(one + other))

    def test_backwards(self):
        self.assertEqual(backwards([1, 2, 2, 3]), (3, 2, 2, 1))
        self.assertEqual(backwards(()), ())
        self.assertIs(backwards([1]).__class__, tuple)
        for word in words_up_to(4):
            self.assertEqual(backwards(word), word[::-1])
            self.assertEqual(joined(word, backwards(word)), ())


class HeadsAndCores(unittest.TestCase):
    def test_examples(self):
        self.assertEqual(core_of((1, 2, 3, 1)), ((1,), (2, 3)))
        self.assertEqual(repeated((1, 2, 3, 1), 2), (1, 2, 3, 2, 3, 1))
        self.assertEqual(order_of((1, 2, 1)), 2)

    def test_heads_and_cores(self):
        for word in words_up_to(6):
            told = core_of(word)
            self.assertIs(told.__class__, tuple)
            head, core = told
            self.assertIs(head.__class__, tuple)
            self.assertIs(core.__class__, tuple)
            self.assertEqual(head + core + head[::-1], reduced(word))
            if core:
                self.assertTrue(len(core) == 1 or core[0] != core[-1])
            else:
                self.assertEqual(head, ())
            self.assertEqual(core_of(list(word)), told)

    def test_special_cores(self):
        self.assertEqual(core_of(()), ((), ()))
        self.assertEqual(core_of((2, 2)), ((), ()))
        self.assertEqual(core_of((3,)), ((), (3,)))
        self.assertEqual(core_of((1, 2, 3, 2, 1)), ((1, 2), (3,)))
        self.assertEqual(core_of((1, 2)), ((), (1, 2)))

    def test_orders(self):
        for word in words_up_to(5):
            times = order_of(word)
            returns = [many for many in range(1, 7) if not reduced(word * many)]
            self.assertEqual(times, returns[0] if returns else None)

    def test_orders_of_roots(self):
        for root in ROOTS:
            for word in reduced_up_to(3):
                times = order_of(list(word))
                if times is None:
                    for many in range(1, 5):
                        self.assertNotEqual(walked(Four(root), word * many).circles, root)
                else:
                    self.assertEqual(walked(Four(root), word * times).circles, root)


class Repeated(unittest.TestCase):
    def test_times(self):
        for word in words_up_to(4):
            for times in range(0, 5):
                self.assertEqual(repeated(word, times), reduced(word * times))
                self.assertEqual(repeated(word, -times), reduced(word[::-1] * times))
            self.assertIs(repeated(list(word), 3).__class__, tuple)
            self.assertEqual(repeated(list(word), -2), repeated(word, -2))

    def test_long_heads(self):
        for head in ((1, 2), (1, 2, 3), (4, 1, 4, 2), (3, 1, 2, 4, 1)):
            for core in ((3, 4), (4, 3, 1), (3, 1, 2), (3, 4, 3, 1), (4,), (3,), ()):
                word = head + core + head[::-1]
                for times in range(-4, 5):
                    expected = reduced((word if times > 0 else word[::-1]) * abs(times))
                    self.assertEqual(repeated(word, times), expected)

    def test_great_numbers_of_times(self):
        great = 10 ** 30
        for times in (great, -great):
            self.assertEqual(repeated((1, 2, 1), times), ())
            self.assertEqual(repeated((1, 2, 1), times + 1), (1, 2, 1))
            self.assertEqual(repeated((4,), times), ())
            self.assertEqual(repeated((4,), times - 1), (4,))
            self.assertEqual(repeated((1, 1), times), ())
            self.assertEqual(repeated((), times + 1), ())
            self.assertEqual(error_of(repeated, (1, 2), times).limit, 2000)
            self.assertEqual(error_of(repeated, (1, 2, 3, 1), times, limit=17).limit, 17)

    def test_the_limit(self):
        for word, times, numbers in (((1, 2), 10, 20), ((1, 2), -10, 20), ((1, 2, 3, 1), 7, 16), ((1, 2, 3, 1), -7, 16),
                                     ((1, 2, 1), 9, 3), ((3,), 5, 1), ((1, 2, 3, 4), 1, 4), ((1, 2), 0, 0),
                                     ((1, 2, 1), 8, 0), ((), 5, 0), ((1, 1, 2, 3, 2, 1, 1), -1, 3)):
            answer = repeated(word, times, limit=numbers)
            self.assertEqual(len(answer), numbers)
            self.assertEqual(answer, reduced((word if times > 0 else word[::-1]) * abs(times)))
            if numbers:
                error = error_of(repeated, word, times, limit=numbers - 1)
                self.assertIs(error.__class__, TooMany)
                self.assertEqual(error.limit, numbers - 1)

    def test_the_limit_that_is_not_given(self):
        self.assertEqual(repeated((1, 2), 1000), (1, 2) * 1000)
        error = error_of(repeated, (1, 2), 1001)
        self.assertIs(error.__class__, TooMany)
        self.assertEqual(error.limit, 2000)
        self.assertEqual(repeated((1, 2), -1001, limit=2002), (2, 1) * 1001)


class Lists(unittest.TestCase):
    def test_counts(self):
        self.assertEqual([word_count(length) for length in range(6)], [1, 4, 12, 36, 108, 324])
        for length in (1, 2, 7, 64, 65, 66, 200, 1001):
            self.assertEqual(word_count(length), 4 * 3 ** (length - 1))

    def test_lists(self):
        for length in range(6):
            words = words_of(length)
            self.assertEqual(words, all_reduced(length))
            self.assertEqual(words, sorted(word for word in all_words(length) if is_reduced(word)))
            self.assertEqual(len(words), word_count(length))
            self.assertIs(words.__class__, list)
            for word in words:
                self.assertIs(word.__class__, tuple)
        self.assertEqual(words_of(0), [()])

    def test_new_lists(self):
        words_of(2).clear()
        self.assertEqual(len(words_of(2)), 12)

    def test_the_limit(self):
        for length in range(6):
            count = word_count(length)
            self.assertEqual(len(words_of(length, limit=count)), count)
            error = error_of(words_of, length, limit=count - 1)
            self.assertIs(error.__class__, TooMany)
            self.assertEqual(error.limit, count - 1)

    def test_the_limit_is_the_count_of_a_lesser_length(self):
        for length in range(1, 8):
            for lesser in range(length):
                error = error_of(words_of, length, limit=word_count(lesser))
                self.assertIs(error.__class__, TooMany)
                self.assertEqual(error.limit, word_count(lesser))

    def test_the_limit_that_is_not_given(self):
        self.assertEqual(len(words_of(6)), 972)
        self.assertEqual(error_of(words_of, 7).limit, 2000)
        self.assertEqual(len(words_of(7, limit=2916)), 2916)
        self.assertIs(error_of(words_of, 10 ** 30).__class__, TooMany)
        self.assertIs(error_of(words_of, 10 ** 30, limit=0).__class__, TooMany)

    def test_lengths_below_0(self):
        for length in (-1, -2, -10 ** 30):
            self.assertIs(error_of(word_count, length).__class__, InvalidQuestion)
            self.assertIs(error_of(words_of, length).__class__, InvalidQuestion)
            self.assertIs(error_of(words_of, length, limit=0).__class__, InvalidQuestion)


if __name__ == "__main__":
    unittest.main()
