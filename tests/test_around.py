import unittest
from itertools import product
from math import gcd, isqrt

from fourtouch.around import chain, is_chain, least_around, pairs_to, steps_between, values_up_to
from fourtouch.circles import touch
from fourtouch.errors import InvalidQuestion, TooMany
from fourtouch.fours import Four
from fourtouch.touching import are_neighbours, circle_by, form_of, four_by, pair_of
from tests.helper import BUGEYE, LONG_WORD, NEGATIVE_ROOTS, ROOTS, STRIPS, bugeye, error_of, heap_circles, strip, walked

NUMBERS = (1, 2, 3, 4)
NO_NUMBERS = (0, 5, -1, 10 ** 30)
MOST = 10 ** 30
NO_PAIRS = (
    (0, 0), (2, 4), (0, 2), (-3, 0), [5, -5], (MOST + 1, 1), (1, -MOST - 1), (10 ** 40, 10 ** 40 + 1), (1,), (), [1],
    (1, 1, 1), (MOST, 10),
)
GREAT_PAIRS = (
    (10 ** 24 + 7, 3 * 10 ** 23 + 2), (-(10 ** 24) - 1, 10 ** 24), (1234567890123456789012345, 9876543210987654321098764),
    (MOST, 1), (1, -MOST), (MOST - 1, MOST), (3 ** 52, -(2 ** 80)), (1, 0), (0, 1),
)


def told(pair):
    return max(tuple(pair), tuple(-part for part in pair))


def box_pairs(most_p, most_q):
    """All pairs with parts up to bounds, as they are told."""
    found = [(0, 1)]
    for p in range(1, most_p + 1):
        found += [(p, q) for q in range(-most_q, most_q + 1) if gcd(p, q) == 1]
    return found


def searched(four, number, most):
    """All pairs with a curvature up to a bound, by looking at all that can have one."""
    b = four.circle(number)[0]
    first, middle, last = form_of(four, number)
    top = max(most + b, 0)
    # A value of the form is at least p * p * b * b / last and q * q * b * b / first.
    box = box_pairs(isqrt(top * last // (b * b)) + 1, isqrt(top * first // (b * b)) + 1)
    values = [(first * p * p + middle * p * q + last * q * q - b, (p, q)) for p, q in box]
    return sorted(row for row in values if row[0] <= most)


def fours():
    for root in ROOTS:
        for word in ((), (1,), (2, 4), (3, 1, 2)):
            for order in ((1, 2, 3, 4), (2, 3, 1, 4), (4, 1, 3, 2)):
                yield walked(Four(root), word).with_order(order)


class PairsUpToACurvature(unittest.TestCase):
    def test_examples(self):
        self.assertEqual(pairs_to(bugeye(), 1, 3), [(2, (0, 1)), (2, (1, 0)), (3, (1, -1)), (3, (1, 1))])
        self.assertEqual(least_around(bugeye(), 1), (2, [(0, 1), (1, 0)]))
        self.assertEqual(steps_between((1, 0), (2, 5)), 3)

    def test_against_a_search_of_all_pairs(self):
        for four in fours():
            for number in NUMBERS:
                b = four.circle(number)[0]
                if b == 0:
                    continue
                least = searched(four, number, max(four.curvatures()))[0][0]
                for most in (-b, least - 1, least, least + 1, least + 3 * abs(b), 2 * least + 40 + 5 * abs(b)):
                    expected = searched(four, number, most)
                    self.assertEqual(pairs_to(four, number, most), expected)
                    self.assertEqual(pairs_to(four, number, most, limit=len(expected)), expected)
                    for limit in {len(expected) - 1, len(expected) // 2, 0}:
                        if 0 <= limit < len(expected):
                            error = error_of(pairs_to, four, number, most, limit=limit)
                            self.assertIs(error.__class__, TooMany)
                            self.assertEqual(error.limit, limit)

    def test_kinds(self):
        found = pairs_to(bugeye(), 2, 30)
        self.assertIs(found.__class__, list)
        for row in found:
            self.assertIs(row.__class__, tuple)
            self.assertIs(row[1].__class__, tuple)
            self.assertEqual(row[1], told(row[1]))
        found.clear()
        self.assertNotEqual(pairs_to(bugeye(), 2, 30), [])

    def test_no_circle(self):
        for most in (1, 0, -1, -2, -10 ** 40):
            for limit in (0, 1, 2000):
                self.assertEqual(pairs_to(bugeye(), 1, most, limit=limit), [])
        self.assertEqual(pairs_to(bugeye(), 2, -2, limit=0), [])

    def test_curvatures_below_0(self):
        for root in NEGATIVE_ROOTS:
            four = Four(root)
            self.assertLess(four.circle(1)[0], 0)
            for number in (2, 3, 4):
                self.assertEqual(pairs_to(four, number, -1), [(root[0][0], pair_of(four, number, root[0]))])
                self.assertEqual(pairs_to(four, number, root[0][0] - 1), [])

    def test_circles_of_the_heap(self):
        for root in NEGATIVE_ROOTS:
            four = Four(root)
            most = max(four.curvatures()) + 10
            heap = heap_circles(four, 4)
            for number in NUMBERS:
                circles = [circle_by(four, number, pair) for _, pair in pairs_to(four, number, most)]
                self.assertEqual(len(circles), len(set(circles)))
                for circle in heap:
                    touching = touch(circle, four.circle(number)) and circle[0] <= most
                    self.assertIs(circle in circles, touching)

    def test_the_limit_that_is_not_said(self):
        most = 100
        while len(pairs_to(bugeye(), 1, most, limit=10 ** 6)) <= 2000:
            most += 50
        error = error_of(pairs_to, bugeye(), 1, most)
        self.assertIs(error.__class__, TooMany)
        self.assertEqual(error.limit, 2000)
        self.assertLessEqual(len(pairs_to(bugeye(), 1, most - 50)), 2000)

    def test_great_bounds(self):
        for most in (10 ** 12, 10 ** 100):
            for limit in (0, 5, 2000):
                error = error_of(pairs_to, bugeye(), 3, most, limit=limit)
                self.assertIs(error.__class__, TooMany)
                self.assertEqual(error.limit, limit)

    def test_great_curvatures(self):
        for root in ROOTS:
            four = walked(Four(root), LONG_WORD)
            for number in NUMBERS:
                found = pairs_to(four, number, max(four.curvatures()))
                self.assertGreaterEqual(len(found), 3)
                for curvature, pair in found:
                    self.assertEqual(circle_by(four, number, pair)[0], curvature)

    def test_other_fours_with_the_circle(self):
        for root in NEGATIVE_ROOTS:
            four = Four(root)
            most = 3 * max(four.curvatures())
            circles = sorted(circle_by(four, 2, pair) for _, pair in pairs_to(four, 2, most))
            others = [(walked(four, (1, 3, 4, 1)).with_order((2, 4, 3, 1)), 1), (walked(four, (4, 3) * 20), 2)]
            # Pairs of many figures: the form around the circle is far from a low one.
            others.append((four_by(four, 2, (10 ** 14, 1), (10 ** 14 - 1, 1)), 1))
            others.append((four_by(four, 2, (3 * 10 ** 12 + 1, 10 ** 12), (3, 1)), 1))
            for other, number in others:
                self.assertEqual(other.circle(number), root[1])
                found = pairs_to(other, number, most)
                self.assertEqual(sorted(circle_by(other, number, pair) for _, pair in found), circles)
                self.assertEqual(least_around(other, number)[0], least_around(four, 2)[0])

    def test_pairs_that_are_told_beyond_the_bounds(self):
        four = four_by(bugeye(), 1, (MOST, 1), (MOST - 1, 1))
        found = pairs_to(four, 1, 6)
        self.assertEqual([curvature for curvature, _ in found], [2, 2, 3, 3, 6, 6, 6, 6])
        self.assertGreater(max(abs(part) for _, pair in found for part in pair), MOST)

    def test_errors_come_in_order(self):
        for number in NO_NUMBERS:
            for limit in (0, 2000):
                self.assertIs(error_of(pairs_to, bugeye(), number, 100, limit=limit).__class__, InvalidQuestion)
            self.assertIs(error_of(least_around, bugeye(), number).__class__, InvalidQuestion)
        for root in STRIPS:
            four = Four(root).exchanged(3)
            for number in (1, 2):
                for most in (-5, 0, 1, 100):
                    for limit in (0, 2000):
                        self.assertIs(error_of(pairs_to, four, number, most, limit=limit).__class__, InvalidQuestion)
                self.assertIs(error_of(least_around, four, number).__class__, InvalidQuestion)
            self.assertIsNone(error_of(pairs_to, four, 3, 0))
            self.assertIsNone(error_of(least_around, four, 3))


class LeastCircles(unittest.TestCase):
    def least(self, four, number):
        """The least circles, by exchanging the greatest of the three others as long as this lessens it."""
        others = [other for other in NUMBERS if other != number]
        while True:
            greatest = max(others, key=lambda other: four.circle(other)[0])
            if four.other(greatest)[0] >= four.circle(greatest)[0]:
                break
            four = four.exchanged(greatest)
        near = {four.circle(other) for other in others} | {four.other(other) for other in others}
        least = min(circle[0] for circle in near)
        return least, [circle for circle in near if circle[0] == least]

    def test_against_exchanges(self):
        counts = {}
        for four in fours():
            for number in NUMBERS:
                if four.circle(number)[0] == 0:
                    continue
                curvature, circles = self.least(four, number)
                pairs = sorted(pair_of(four, number, circle) for circle in circles)
                self.assertEqual(least_around(four, number), (curvature, pairs))
                counts[len(pairs)] = True
        # There are never three: the form would be a multiple of p * p + p * q + q * q.
        self.assertEqual(sorted(counts), [1, 2])

    def test_against_a_search_of_all_pairs(self):
        for four in fours():
            for number in NUMBERS:
                if four.circle(number)[0] == 0:
                    continue
                found = searched(four, number, max(four.curvatures()))
                least = found[0][0]
                self.assertEqual(least_around(four, number), (least, [pair for value, pair in found if value == least]))

    def test_three_least_values(self):
        # No circle has three least ones around it, but a form may have its least value at three pairs.
        for form in ((1, 1, 1), (1, -1, 1), (2, 2, 2), (7, 5, 1), (1, 3, 3)):
            first, middle, last = form
            values = [(first * p * p + middle * p * q + last * q * q, (p, q)) for p, q in box_pairs(6, 6)]
            least = min(values)[0]
            found = sorted((value, told(pair)) for value, pair in values_up_to(form, least, 3))
            self.assertEqual(found, sorted(row for row in values if row[0] == least))
            self.assertEqual(len(found), 3)
            self.assertEqual(error_of(values_up_to, form, least, 2).limit, 2)

    def test_kinds(self):
        told_least = least_around(bugeye(), 1)
        self.assertIs(told_least.__class__, tuple)
        self.assertIs(told_least[1].__class__, list)
        told_least[1].clear()
        self.assertEqual(least_around(bugeye(), 1), (2, [(0, 1), (1, 0)]))

    def test_around_the_same_circle_far_away(self):
        for root in ROOTS:
            four = walked(Four(root), (1, 2, 4) * 30)
            for number in (3,):
                curvature, pairs = least_around(four, number)
                self.assertEqual(curvature, least_around(Four(root), number)[0])
                self.assertEqual(
                    sorted(circle_by(four, number, pair) for pair in pairs),
                    sorted(circle_by(Four(root), number, pair) for pair in least_around(Four(root), number)[1]),
                )

    def test_lines_as_the_least(self):
        curvature, pairs = least_around(strip(), 3)
        self.assertEqual(curvature, 0)
        self.assertEqual([circle_by(strip(), 3, pair) for pair in pairs], [strip().circle(2), strip().circle(1)])


class Chains(unittest.TestCase):
    SMALL = box_pairs(6, 6)
    LARGE = box_pairs(20, 20)

    def steps_from(self, start):
        """The steps to all pairs, breadth first."""
        steps = {start: 0}
        row = [start]
        while row:
            behind = []
            for p, q in row:
                for pair in self.LARGE:
                    if pair not in steps and abs(p * pair[1] - q * pair[0]) == 1:
                        steps[pair] = steps[p, q] + 1
                        behind.append(pair)
            row = behind
        return steps

    def assert_chain(self, found, one, other):
        self.assertIs(found.__class__, list)
        self.assertEqual((found[0], found[-1]), (told(one), told(other)))
        for pair in found:
            self.assertIs(pair.__class__, tuple)
            self.assertEqual(pair, told(pair))
            self.assertEqual(gcd(*pair), 1)
        for before, pair in zip(found, found[1:]):
            self.assertEqual(abs(before[0] * pair[1] - before[1] * pair[0]), 1)

    def test_against_a_search_breadth_first(self):
        longest = 0
        for start in self.SMALL:
            steps = self.steps_from(start)
            for end in self.SMALL:
                for one, other in ((start, end), ([-start[0], -start[1]], list(end)), (start, (-end[0], -end[1]))):
                    found = chain(one, other)
                    self.assert_chain(found, one, other)
                    self.assertEqual(len(found) - 1, steps[end])
                    self.assertEqual(steps_between(one, other), steps[end])
                longest = max(longest, steps[end])
        self.assertGreaterEqual(longest, 4)

    def test_to_itself_and_to_neighbours(self):
        for pair in self.SMALL + [told(great) for great in GREAT_PAIRS]:
            negative = (-pair[0], -pair[1])
            for one, other in ((pair, pair), (pair, negative), (negative, pair), (negative, list(negative))):
                self.assertEqual(chain(one, other), [pair])
                self.assertEqual(steps_between(one, other), 0)
        for one, other in product(self.SMALL, repeat=2):
            self.assertIs(steps_between(one, other) == 1, are_neighbours(one, other))
            if are_neighbours(one, other):
                self.assertEqual(chain(one, other), [one, other])

    def test_great_pairs(self):
        for one, other in product(GREAT_PAIRS, repeat=2):
            found = chain(one, other)
            self.assert_chain(found, one, other)
            self.assertEqual(steps_between(one, other), len(found) - 1)
            self.assertEqual(steps_between(other, one), len(found) - 1)
            self.assertEqual(steps_between((-one[0], -one[1]), [-other[0], -other[1]]), len(found) - 1)

    def test_great_pairs_with_known_steps(self):
        # Where each pair is seen at 3 or more times the one before it, no other chain is as short.
        for times in ([3] * 50, [-3, 3] * 25, [4, -5, 3, 7, -3] * 8, [0, 3, -4] * 1, [10 ** 9, 10 ** 9, 10 ** 9]):
            here, beside = (1, 0), (0, 1)
            expected = [here]
            for many in times:
                here, beside = (many * here[0] + beside[0], many * here[1] + beside[1]), (-here[0], -here[1])
                expected.append(told(here))
            self.assertEqual(chain((1, 0), here), expected)
            self.assertEqual(chain(here, (1, 0)), expected[::-1])
            self.assertEqual(steps_between((1, 0), here), len(times))

    def test_steps_are_the_same_elsewhere(self):
        # A change of pairs that keeps neighbours keeps the steps.
        a, b, c, d = 10 ** 24 + 1, 10 ** 24, 10 ** 24 + 2, 10 ** 24 + 1
        self.assertEqual(a * d - b * c, 1)
        for one, other in product(self.SMALL[::3], repeat=2):
            here = (a * one[0] + b * one[1], c * one[0] + d * one[1])
            there = (a * other[0] + b * other[1], c * other[0] + d * other[1])
            self.assertEqual(steps_between(here, there), steps_between(one, other))
            self.assert_chain(chain(here, there), here, there)

    def test_errors(self):
        for pair in NO_PAIRS:
            for action in (chain, steps_between):
                for other in ((1, 0), [3, 4], pair):
                    self.assertIs(error_of(action, pair, other).__class__, InvalidQuestion)
                    self.assertIs(error_of(action, other, pair).__class__, InvalidQuestion)

    def test_new_lists_and_the_same_arguments(self):
        one, other = [1, 0], [-2, -5]
        chain(one, other).clear()
        self.assertEqual(len(chain(one, other)), 4)
        steps_between(one, other)
        pairs = [one, [0, 1], (1, 1)]
        self.assertIs(is_chain(pairs), True)
        self.assertEqual(pairs, [[1, 0], [0, 1], (1, 1)])
        self.assertEqual((one, other), ([1, 0], [-2, -5]))


class ChainsThatAreHandedIn(unittest.TestCase):
    def test_none_and_one(self):
        self.assertIs(is_chain([]), True)
        for pair in Chains.SMALL:
            self.assertIs(is_chain([pair]), True)
            self.assertIs(is_chain([[-pair[0], -pair[1]]]), True)

    def test_chains(self):
        for one, other in product(GREAT_PAIRS, repeat=2):
            found = chain(one, other)
            self.assertIs(is_chain(found), True)
            self.assertIs(is_chain(found[::-1]), True)
            self.assertIs(is_chain([[-p, -q] if at % 2 else [p, q] for at, (p, q) in enumerate(found)]), True)
        # A chain need not be a shortest one.
        self.assertIs(is_chain([(1, 0), (0, 1), (1, 0), (1, 1), (0, 1)]), True)

    def test_one_left_out_and_one_twice(self):
        for one, other in ((GREAT_PAIRS[0], GREAT_PAIRS[2]), (GREAT_PAIRS[1], (1, 0)), ((1, 0), (2, 5))):
            found = chain(one, other)
            self.assertGreaterEqual(len(found), 3)
            for at in range(1, len(found) - 1):
                self.assertIs(is_chain(found[:at] + found[at + 1:]), False)
            for at in range(len(found)):
                self.assertIs(is_chain(found[:at] + found[at:at + 1] + found[at:]), False)
                p, q = found[at]
                self.assertIs(is_chain(found[:at] + [(-p, -q)] + found[at:]), False)

    def test_against_neighbours(self):
        for three in product(box_pairs(2, 2), repeat=3):
            expected = are_neighbours(three[0], three[1]) and are_neighbours(three[1], three[2])
            self.assertIs(is_chain(list(three)), expected)

    def test_errors(self):
        for pair in NO_PAIRS:
            lists = [[pair], [(1, 0), pair], [pair, (1, 0)], [(1, 0), (3, 7), pair], [(1, 0), (1, 0), pair, (0, 1)]]
            for pairs in lists:
                self.assertIs(error_of(is_chain, pairs).__class__, InvalidQuestion)


if __name__ == "__main__":
    unittest.main()
