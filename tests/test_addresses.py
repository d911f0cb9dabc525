import unittest
from fractions import Fraction
from itertools import permutations, product

from fourtouch.addresses import (
    absence, address_of, check_absence, coordinates, is_there, same_heap, word_between,
)
from fourtouch.circles import is_circle, opposite, touch
from fourtouch.errors import InvalidCircle, InvalidWord, NotThere
from fourtouch.fours import Four
from tests.helper import (
    BUGEYE, LONG_WORD, NEGATIVE_ROOTS, ROOTS, STRIPS, bugeye, error_of, heap_circles, laid, laid_circle, reduced_up_to,
    strip, walked, words_up_to,
)

NO_CIRCLES = ((3, 1, 0, 3), (1, 1, 1, 2), (), (3, 1, 0), [3, 1, 0, 2, 0])
NO_WORDS = ((0,), (5,), (1, True), ("1",), [2, None])
# Coordinates of circles that are none of a heap, whatever the four is: they are integers.
STRAYS = tuple(
    parts for parts in product(range(-4, 8), repeat=4)
    if 2 * sum(part * part for part in parts) - sum(parts) ** 2 == 1 and sum(parts) <= 9
)


def parts_of(four, circle):
    """The coordinates as fractions, by the doubles."""
    doubles = []
    for b, c, x, y in four.circles:
        doubles.append(2 * (x * circle[2] + y * circle[3]) - (b * circle[1] + c * circle[0]))
    return [Fraction(number, 4) - Fraction(sum(doubles), 8) for number in doubles]


def summed(four, parts):
    """The sum of the circles of a four, each times its coordinate."""
    return tuple(sum(part * circle[at] for part, circle in zip(parts, four.circles)) for at in range(4))


def led(four, circle):
    """The word on which a circle is led and whether it is in the four there, by points 38 and 39 alone."""
    word = ()
    while True:
        parts = parts_of(four, circle)
        if tuple(circle) in four.circles:
            return word, True
        below = [number for number in (1, 2, 3, 4) if parts[number - 1] < 0]
        if any(part.denominator > 1 for part in parts) or len(below) != 1 or sum(parts) <= 1:
            return word, False
        four = four.exchanged(below[0])
        word += (below[0],)


def strays(four):
    """Circles with small coordinates that are integers, most of them none of the heap."""
    return [summed(four, parts) for parts in STRAYS]


def small_circles():
    """Circles of small integers, of whatever heap."""
    return [circle for circle in product(range(-3, 5), repeat=4) if is_circle(circle)]


class Coordinates(unittest.TestCase):
    def test_example(self):
        circle = bugeye().exchanged(1).exchanged(2).circle(2)
        self.assertEqual(circle, (38, 4, -3, 12))
        self.assertEqual(coordinates(bugeye(), circle), ((-2, 1), (3, 1), (6, 1), (6, 1)))
        self.assertEqual(address_of(bugeye(), circle), ((1, 2), 2))
        self.assertEqual(absence(bugeye(), (1, 0, 1, 0)), ())

    def assert_coordinates(self, four, circle):
        told = coordinates(four, circle)
        self.assertIs(told.__class__, tuple)
        parts = parts_of(four, circle)
        for part, fraction in zip(told, parts, strict=True):
            self.assertEqual(part, (fraction.numerator, fraction.denominator))
            self.assertIs(part.__class__, tuple)
        self.assertEqual(summed(four, parts), tuple(circle))
        self.assertEqual(coordinates(four, list(circle)), told)

    def test_own_circles(self):
        for root in ROOTS:
            four = walked(Four(root), (2, 1, 4))
            for number in (1, 2, 3, 4):
                expected = tuple((1, 1) if at == number else (0, 1) for at in (1, 2, 3, 4))
                self.assertEqual(coordinates(four, four.circle(number)), expected)
                self.assert_coordinates(four, four.circle(number))

    def test_circles_of_the_heap_are_sums(self):
        for root in ROOTS[::2]:
            four = walked(Four(root), (3, 1))
            for circle in heap_circles(four, 3):
                self.assert_coordinates(four, circle)
                self.assertTrue(all(part[1] == 1 for part in coordinates(four, circle)))

    def test_all_other_circles_are_sums(self):
        fractions = 0
        for root in ROOTS[::3]:
            four = Four(root)
            circles = [opposite(circle) for circle in heap_circles(four, 2)]
            circles += [laid_circle(circle, 1, 1, 3, -2) for circle in heap_circles(four, 2)]
            circles += list(heap_circles(Four(ROOTS[1]), 2)) + small_circles()[::3]
            for circle in circles:
                self.assert_coordinates(four, circle)
                fractions += any(part[1] > 1 for part in coordinates(four, circle))
        self.assertGreater(fractions, 50)

    def test_opposites(self):
        for root in ROOTS:
            four = Four(root)
            for circle in small_circles()[::7]:
                turned = [(-part[0], part[1]) for part in coordinates(four, circle)]
                self.assertEqual(coordinates(four, opposite(circle)), tuple(turned))

    def test_exchanged_fours(self):
        for root in ROOTS:
            four = walked(Four(root), (4, 2))
            for circle in small_circles()[::5] + list(heap_circles(four, 2)):
                parts = [Fraction(*part) for part in coordinates(four, circle)]
                for number in (1, 2, 3, 4):
                    old = parts[number - 1]
                    expected = [part + 2 * old for part in parts]
                    expected[number - 1] = -old
                    behind = [Fraction(*part) for part in coordinates(four.exchanged(number), circle)]
                    self.assertEqual(behind, expected)
                    self.assertEqual(sum(behind), sum(parts) + 4 * old)

    def test_great_integers(self):
        four = walked(bugeye(), LONG_WORD)
        for circle in (BUGEYE[0], four.other(1), opposite(four.circle(2)), (10 ** 60, 10 ** 60 + 2, 10 ** 60 + 1, 0)):
            self.assert_coordinates(four, circle)

    def test_no_circles(self):
        for circle in NO_CIRCLES:
            for action in (coordinates, address_of, is_there, absence):
                self.assertIs(error_of(action, bugeye(), circle).__class__, InvalidCircle)


class Addresses(unittest.TestCase):
    def assert_there(self, four, circle, address):
        self.assertEqual(address_of(four, circle), address)
        self.assertIs(address_of(four, circle).__class__, tuple)
        self.assertIs(address_of(four, circle)[0].__class__, tuple)
        self.assertIs(is_there(four, circle), True)
        self.assertIsNone(absence(four, circle))
        self.assertEqual(address_of(four, list(circle)), address)
        self.assertIs(is_there(four, list(circle)), True)

    def assert_absent(self, four, circle, word):
        error = error_of(address_of, four, circle)
        self.assertIs(error.__class__, NotThere)
        self.assertEqual(error.step, len(word))
        self.assertIs(is_there(four, circle), False)
        self.assertEqual(absence(four, circle), word)
        self.assertIs(absence(four, circle).__class__, tuple)
        self.assertIs(check_absence(four, circle, word), True)
        self.assertIs(check_absence(four, list(circle), list(word)), True)

    def test_circles_at_words(self):
        for root in ROOTS:
            for start in ((), (1, 4, 2)):
                four = walked(Four(root), start)
                for circle, address in heap_circles(four, 4 if root == BUGEYE else 3).items():
                    self.assert_there(four, circle, address)
                    word, number = address
                    self.assertEqual(walked(four, word).circle(number), circle)
                    self.assertEqual(led(four, circle), (word, True))

    def test_own_circles(self):
        for root in ROOTS:
            for circles in permutations(root):
                for number in (1, 2, 3, 4):
                    self.assert_there(Four(circles), circles[number - 1], ((), number))

    def test_the_signs_on_the_way(self):
        for root in ROOTS[::2]:
            for circle, (word, _) in heap_circles(Four(root), 4).items():
                four = Four(root)
                for number in word:
                    parts = [Fraction(*part) for part in coordinates(four, circle)]
                    self.assertEqual([at for at in (1, 2, 3, 4) if parts[at - 1] < 0], [number])
                    self.assertGreater(sum(parts), 1)
                    four = four.exchanged(number)
                    self.assertLess(sum(Fraction(*part) for part in coordinates(four, circle)), sum(parts))

    def test_long_addresses(self):
        for root in ROOTS:
            four = walked(Four(root), LONG_WORD)
            self.assert_there(Four(root), four.circle(LONG_WORD[-1]), (LONG_WORD, LONG_WORD[-1]))
            for circle in root:
                word, number = address_of(four, circle)
                self.assertEqual(walked(four, word).circle(number), circle)
                self.assertEqual(word, LONG_WORD[::-1][:len(word)])
        word = (3, 4) * 2000
        self.assert_there(strip(), walked(strip(), word).circle(4), (word, 4))

    def test_opposites_are_absent(self):
        for root in ROOTS:
            four = Four(root)
            for circle, (word, _) in heap_circles(four, 3).items():
                mirror = opposite(circle)
                self.assert_absent(four, mirror, led(four, mirror)[0])

    def test_moved_circles(self):
        for root in NEGATIVE_ROOTS:
            four = Four(root)
            for circle in heap_circles(four, 2):
                moved = laid_circle(circle, 0, 0, 10, 3)
                self.assert_absent(four, moved, led(four, moved)[0])

    def test_circles_of_another_heap(self):
        for root, other_root in permutations(NEGATIVE_ROOTS[1:], 2):
            four = Four(root)
            for circle in heap_circles(Four(other_root), 1):
                word, there = led(four, circle)
                if there:
                    self.assert_there(four, circle, (word, walked(four, word).number_of(circle)))
                else:
                    self.assert_absent(four, circle, word)

    def test_all_small_circles(self):
        for root in ROOTS[:2] + STRIPS:
            four = walked(Four(root), (2, 3))
            for circle in small_circles():
                word, there = led(four, circle)
                if there:
                    self.assert_there(four, circle, (word, walked(four, word).number_of(circle)))
                else:
                    self.assert_absent(four, circle, word)

    def test_coordinates_that_are_integers(self):
        steps = {}
        for four in (bugeye(), walked(Four(NEGATIVE_ROOTS[1]), (1, 3))):
            # The sum of coordinates of a circle with an address of n numbers is at least 1 + 4 * n.
            heap = heap_circles(four, 2)
            for circle in strays(four):
                word, there = led(four, circle)
                self.assertIs(there, circle in heap)
                if there:
                    self.assert_there(four, circle, heap[circle])
                else:
                    self.assert_absent(four, circle, word)
                    steps[len(word)] = True
        self.assertGreaterEqual(len(steps), 2)

    def test_ways_to_be_absent_at_once(self):
        four = bugeye()
        seen = {}
        for circle in strays(four) + small_circles():
            parts = parts_of(four, circle)
            if circle in four.circles:
                continue
            if any(part.denominator > 1 for part in parts):
                kind = "fractions"
            elif sum(part < 0 for part in parts) == 0:
                kind = "none below"
            elif sum(part < 0 for part in parts) > 1:
                kind = "several below"
            elif sum(parts) <= 1:
                kind = "no great sum"
            else:
                continue
            seen[kind] = True
            self.assert_absent(four, circle, ())
        self.assertEqual(sorted(seen), ["fractions", "no great sum", "none below", "several below"])

    def test_absent_behind_long_words(self):
        for root in NEGATIVE_ROOTS:
            far = walked(Four(root), LONG_WORD)
            long_words = 0
            for circle in strays(Four(root))[::9]:
                word, there = led(far, circle)
                if not there:
                    self.assert_absent(far, circle, word)
                    self.assertIs(check_absence(far, circle, word[:-1]), len(word) == 0)
                    long_words += len(word) > 100
            self.assertGreater(long_words, 3)


class ShownAbsences(unittest.TestCase):
    def circles(self, four):
        return strays(four)[::9] + small_circles()[::11] + list(heap_circles(four, 2))

    def test_against_all_short_words(self):
        for root in (BUGEYE, NEGATIVE_ROOTS[1], STRIPS[0]):
            for four in (Four(root), walked(Four(root), (1, 2))):
                for circle in self.circles(four):
                    right, there = led(four, circle)
                    for word in words_up_to(3):
                        expected = not there and word == right
                        self.assertIs(check_absence(four, circle, word), expected, (circle, word))

    def test_changed_words(self):
        four = walked(bugeye(), (1, 2, 3, 4, 1, 2))
        seen = 0
        for circle in strays(bugeye()):
            word, there = led(four, circle)
            if there or len(word) < 4:
                continue
            seen += 1
            changed = [word[1:], word[:-1], word[::-1], (), word + (word[-1],), word + word, (word[0],) + word]
            changed += [word + (number,) for number in (1, 2, 3, 4)]
            changed += [word[:2] + (number,) + word[3:] for number in (1, 2, 3, 4) if number != word[2]]
            for other in changed:
                self.assertIs(check_absence(four, circle, other), False, (circle, other))
        self.assertGreater(seen, 10)

    def test_the_empty_word_where_coordinates_are_no_integers(self):
        for root in ROOTS:
            four = Four(root)
            circles = [circle for circle in small_circles() if any(part.denominator > 1 for part in parts_of(four, circle))]
            for circle in circles[::9]:
                self.assertIs(check_absence(four, circle, ()), True)
                self.assertIs(check_absence(four, circle, []), True)
                for word in reduced_up_to(2)[1:] + [(1, 1)]:
                    self.assertIs(check_absence(four, circle, word), False)

    def test_circles_of_the_heap(self):
        for root in ROOTS:
            four = Four(root)
            for circle, (word, _) in heap_circles(four, 2).items():
                for other in [word, (), word[:-1], word + (1,), word[::-1]]:
                    self.assertIs(check_absence(four, circle, other), False)

    def test_errors_come_in_order(self):
        for circle in NO_CIRCLES:
            for word in NO_WORDS + ((), (1, 2)):
                self.assertIs(error_of(check_absence, bugeye(), circle, word).__class__, InvalidCircle)
        for circle in (BUGEYE[0], (15, 1, 0, 4), (1, 0, 1, 0), opposite(BUGEYE[1]), [1, 0, 1, 0]):
            for word in NO_WORDS:
                self.assertIs(error_of(check_absence, bugeye(), circle, word).__class__, InvalidWord)

    def test_arguments_stay_as_they_are(self):
        circle, word = [1, 0, 1, 0], [1, 2]
        four = bugeye()
        for action in (coordinates, is_there, absence):
            action(four, circle)
        error_of(address_of, four, circle)
        check_absence(four, circle, word)
        self.assertEqual((circle, word), ([1, 0, 1, 0], [1, 2]))
        self.assertEqual(four.circles, BUGEYE)


class Heaps(unittest.TestCase):
    def test_fours_at_words(self):
        orders = list(permutations((1, 2, 3, 4)))
        for root in ROOTS:
            for at, word in enumerate(reduced_up_to(4)[::3]):
                four = walked(Four(root), (2, 4, 1)[:at % 4])
                other = walked(four, word).with_order(orders[at % 24])
                self.assertIs(same_heap(four, other), True)
                self.assertEqual(word_between(four, other), word)
                self.assertIs(word_between(four, other).__class__, tuple)
                self.assertIs(same_heap(other, four), True)
                back = word_between(other, four)
                self.assertEqual(len(back), len(word))
                self.assertTrue(walked(other, back).has_same(four))

    def test_the_empty_word(self):
        for root in ROOTS:
            for circles in permutations(root):
                self.assertEqual(word_between(Four(root), Four(circles)), ())
                self.assertIs(same_heap(Four(root), Four(circles)), True)

    def test_the_longest_address(self):
        for root in ROOTS[::2]:
            for word in reduced_up_to(3):
                other = walked(Four(root), word)
                addresses = [address_of(Four(root), circle)[0] for circle in other.circles]
                self.assertEqual(max(map(len, addresses)), len(word))
                self.assertIn(word, addresses)

    def test_moved_fours(self):
        for root in NEGATIVE_ROOTS:
            for way in ((0, 0, 7, 0), (0, 0, 0, -9), (0, 0, 10 ** 30, 1), (0, 1, 20, 20)):
                for word in ((), (1,), (3, 2)):
                    other = laid(walked(Four(root), word), *way)
                    self.assertIs(same_heap(Four(root), other), False)
                    self.assertIs(same_heap(other, Four(root)), False)
                    self.assertIsNone(word_between(Four(root), other))

    def test_moved_strips(self):
        # Between the lines the same circles stand again two steps further, but not one step further.
        for steps in range(-6, 7):
            other = laid(walked(strip(), (1, 2)), 0, 0, 0, steps)
            expected = steps % 2 == 0
            self.assertIs(same_heap(strip(), other), expected)
            word = word_between(strip(), other)
            self.assertEqual(word is not None, expected)
            if expected:
                self.assertTrue(walked(strip(), word).has_same(other))

    def test_mirrored_in_itself(self):
        # This heap is the same behind mirroring and behind half a turn, and another one behind a quarter.
        for flip, quarters in product((0, 1), (0, 1, 2, 3)):
            other = laid(bugeye(), flip, quarters, 0, 0)
            self.assertIs(same_heap(bugeye(), other), quarters % 2 == 0)

    def test_fours_of_other_roots(self):
        for root, other_root in permutations(ROOTS, 2):
            for word in ((), (1, 2)):
                other = walked(Four(other_root), word)
                self.assertIs(same_heap(Four(root), other), False)
                self.assertIsNone(word_between(Four(root), other))

    def test_one_circle_in_common(self):
        # The first circles stay; turned by a quarter, the others are none of the heap.
        other = Four([(-1, 1, 0, 0), (2, 0, 0, 1), (2, 0, 0, -1), (3, 1, 2, 0)])
        self.assertTrue(touch(*other.circles[:2]))
        self.assertIs(is_there(bugeye(), other.circle(1)), True)
        self.assertIs(same_heap(bugeye(), other), False)
        self.assertIsNone(word_between(bugeye(), other))

    def test_long_words(self):
        for root in ROOTS:
            other = walked(Four(root), LONG_WORD).ordered()
            self.assertEqual(word_between(Four(root), other), LONG_WORD)
            self.assertIs(same_heap(Four(root), other), True)
            self.assertIs(same_heap(other, Four(root)), True)


if __name__ == "__main__":
    unittest.main()
