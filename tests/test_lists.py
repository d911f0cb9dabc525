import unittest
from collections import Counter

from fourtouch.circles import opposite, relation, touch
from fourtouch.errors import InvalidCircle, InvalidQuestion, TooMany
from fourtouch.fours import Four
from fourtouch.lists import (
    circles_of, circles_up_to, covers, curvature_behind, curvatures_up_to, first_circles, neighbours_of,
)
from tests.helper import (
    BUGEYE, LONG_WORD, NEGATIVE_ROOTS, STRIPS, bugeye, error_of, heap_circles, laid_circle, walked,
)

NO_CIRCLES = ((3, 1, 0, 3), (1, 1, 1, 2), (), (3, 1, 0), [3, 1, 0, 2, 0])
WORDS = ((), (1,), (4, 2), (2, 3, 1, 4))
ORDERS = ((4, 3, 2, 1), (1, 2, 3, 4), (2, 4, 1, 3), (3, 1, 2, 4))


def found_by_words(root, most):
    """All circles of a heap up to a curvature, by words from the root along which none above it is made."""
    found = [circle for circle in root if circle[0] <= most]

    def go(four, last):
        for number in (1, 2, 3, 4):
            if number != last and four.other(number)[0] <= most:
                found.append(four.other(number))
                go(four.exchanged(number), number)

    go(Four(root), 0)
    return sorted(found)


def most_of(root):
    """A curvature up to which a heap has some dozens of circles."""
    return 6 * max(Four(root).curvatures())


def cases():
    for root in NEGATIVE_ROOTS:
        expected = found_by_words(root, most_of(root))
        for word, order in zip(WORDS, ORDERS):
            yield root, walked(Four(root), word).with_order(order), expected


class CirclesUpToACurvature(unittest.TestCase):
    def test_example(self):
        four = Four([(-1, 0, 1, 0), (2, 0, -1, 0), (2, 4, -3, 0), (3, 4, -3, 2)])
        expected = [(-1, 1), (2, 2), (3, 2), (6, 4), (11, 4), (14, 4)]
        self.assertEqual(curvatures_up_to(four, 14), expected)

    def test_against_words(self):
        for root, four, expected in cases():
            most = most_of(root)
            found = circles_up_to(four, most)
            self.assertEqual(found, expected)
            self.assertIs(found.__class__, list)
            self.assertTrue(all(circle.__class__ is tuple for circle in found))
            self.assertEqual(len(set(found)), len(found))
            for other_most in (most // 2, most // 3, max(Four(root).curvatures()), min(Four(root).curvatures())):
                self.assertEqual(circles_up_to(four, other_most), [row for row in expected if row[0] <= other_most])

    def test_against_all_words_of_a_length(self):
        for root in NEGATIVE_ROOTS:
            heap = heap_circles(Four(root), 5)
            # A circle with a longer address has a greater curvature than some circle with one of 5 numbers.
            last = min(circle[0] for circle, (word, _) in heap.items() if len(word) == 5)
            expected = sorted(circle for circle in heap if circle[0] <= last)
            self.assertEqual(circles_up_to(Four(root), last), expected)

    def test_the_greatest_that_is_the_sum(self):
        # Exchanging the greatest makes one of the same curvature, which may stand ahead of it.
        for four in (bugeye(), bugeye().exchanged(4), bugeye().exchanged(4).exchanged(1)):
            self.assertEqual(circles_up_to(four, 3), sorted(BUGEYE + ((3, 1, 0, -2),)))
            self.assertEqual(curvatures_up_to(four, 3), [(-1, 1), (2, 2), (3, 2)])
            self.assertEqual(first_circles(four, 4), [(-1, 1, 0, 0), (2, 0, -1, 0), (2, 0, 1, 0), (3, 1, 0, -2)])

    def test_nothing_up_to_it(self):
        for root in NEGATIVE_ROOTS:
            least = min(Four(root).curvatures())
            for most in (least - 1, least - 10 ** 30):
                for limit in (0, 3):
                    self.assertEqual(circles_up_to(Four(root), most, limit=limit), [])
                    self.assertEqual(curvatures_up_to(Four(root), most, limit=limit), [])
            for most in (least, -1, 0, 1):
                self.assertEqual(circles_up_to(Four(root), most, limit=1), [root[0]])
                self.assertEqual(curvatures_up_to(Four(root), most, limit=1), [(least, 1)])

    def test_counts(self):
        for root, four, expected in cases():
            found = curvatures_up_to(four, most_of(root))
            self.assertEqual(found, sorted(Counter(circle[0] for circle in expected).items()))
            self.assertIs(found.__class__, list)
            self.assertTrue(all(row.__class__ is tuple for row in found))

    def test_limits(self):
        for root, four, expected in cases():
            for most in (most_of(root), most_of(root) // 2, 0, root[0][0]):
                circles = [circle for circle in expected if circle[0] <= most]
                many = len(circles)
                for limit in (many, many + 1):
                    self.assertEqual(circles_up_to(four, most, limit=limit), circles)
                    self.assertEqual(len(circles_of(four, most, limit=limit)), [row[0] for row in circles].count(most))
                    self.assertIsNone(error_of(curvatures_up_to, four, most, limit=limit))
                    self.assertIsNone(error_of(neighbours_of, four, (1, -1, 0, 0), most, limit=limit))
                for limit in {many - 1, many // 2, 0}:
                    errors = [error_of(action, four, most, limit=limit) for action in
                              (circles_up_to, curvatures_up_to, circles_of)]
                    errors.append(error_of(neighbours_of, four, (1, -1, 0, 0), most, limit=limit))
                    errors.append(error_of(covers, four, circles, limit=limit))
                    for error in errors:
                        self.assertIs(error.__class__, TooMany)
                        self.assertEqual(error.limit, limit)

    def test_the_limit_that_is_not_said(self):
        most = 100
        while len(circles_up_to(bugeye(), most, limit=10 ** 6)) <= 2000:
            most += 50
        for action in (circles_up_to, curvatures_up_to, circles_of):
            error = error_of(action, bugeye(), most)
            self.assertIs(error.__class__, TooMany)
            self.assertEqual(error.limit, 2000)
        self.assertLessEqual(len(circles_up_to(bugeye(), most - 50)), 2000)
        self.assertEqual(error_of(circles_up_to, bugeye(), 10 ** 50).limit, 2000)
        self.assertEqual(error_of(neighbours_of, bugeye(), BUGEYE[0], 10 ** 50).limit, 2000)

    def test_fours_far_away(self):
        for root in NEGATIVE_ROOTS:
            four = walked(Four(root), LONG_WORD)
            most = 2 * max(Four(root).curvatures())
            self.assertEqual(circles_up_to(four, most), found_by_words(root, most))

    def test_strips(self):
        for root in STRIPS:
            for word in WORDS:
                four = walked(Four(root), word)
                for limit in (0, 2000):
                    for most in (-1, 0, 10):
                        for action in (circles_up_to, curvatures_up_to, circles_of, curvature_behind, first_circles):
                            self.assertIs(error_of(action, four, most, limit=limit).__class__, InvalidQuestion)
                        error = error_of(neighbours_of, four, four.circle(1), most, limit=limit)
                        self.assertIs(error.__class__, InvalidQuestion)
                    self.assertIs(error_of(covers, four, list(root), limit=limit).__class__, InvalidQuestion)


class CirclesOfACurvature(unittest.TestCase):
    def test_against_words(self):
        for root, four, expected in cases():
            for curvature in range(root[0][0] - 2, most_of(root) + 1):
                found = circles_of(four, curvature)
                self.assertEqual(found, [circle for circle in expected if circle[0] == curvature])
                self.assertIs(found.__class__, list)

    def test_nothing_stands_there(self):
        for curvature in (-10 ** 30, -2, 0, 1, 4, 5, 7, 8, 9, 10, 12):
            self.assertEqual(circles_of(bugeye(), curvature), [])
        self.assertIs(error_of(circles_of, bugeye(), 5, limit=4).__class__, TooMany)
        self.assertEqual(circles_of(bugeye(), 5, limit=5), [])

    def test_the_next_curvature(self):
        for root, four, expected in cases():
            most = most_of(root)
            curvatures = sorted({circle[0] for circle in expected})
            for curvature in range(root[0][0] - 2, curvatures[-1]):
                behind = min(other for other in curvatures if other > curvature)
                self.assertEqual(curvature_behind(four, curvature), behind)
                up_to = 4 * max(behind, curvature, *Four(root).curvatures())
                if up_to <= most:
                    limit = len([circle for circle in expected if circle[0] <= up_to])
                    self.assertEqual(curvature_behind(four, curvature, limit=limit), behind)
            self.assertEqual(curvature_behind(four, -10 ** 40), root[0][0])

    def test_too_many_ahead_of_the_next_curvature(self):
        error = error_of(curvature_behind, bugeye(), 10 ** 30)
        self.assertIs(error.__class__, TooMany)
        self.assertEqual(error.limit, 2000)
        self.assertEqual(error_of(curvature_behind, bugeye(), 100, limit=3).limit, 3)

    def test_first_circles(self):
        for root, four, expected in cases():
            for many in range(len(expected) + 1):
                found = first_circles(four, many)
                self.assertEqual(found, expected[:many])
                self.assertIs(found.__class__, list)
            for many in (0, 1, 3, 4, 5):
                up_to = 4 * max(Four(root).curvatures())
                limit = len([circle for circle in expected if circle[0] <= up_to])
                self.assertEqual(first_circles(four, many, limit=limit), expected[:many])

    def test_many_first_circles(self):
        found = first_circles(bugeye(), 2000)
        self.assertEqual(found, sorted(found))
        self.assertEqual(found, found_by_words(BUGEYE, found[-1][0])[:2000])
        for many in (2001, 10 ** 30):
            error = error_of(first_circles, bugeye(), many)
            self.assertIs(error.__class__, TooMany)
            self.assertEqual(error.limit, 2000)

    def test_fewer_than_none(self):
        for root in NEGATIVE_ROOTS + STRIPS:
            for many in (-1, -10 ** 30):
                for limit in (0, 2000):
                    self.assertIs(error_of(first_circles, Four(root), many, limit=limit).__class__, InvalidQuestion)


class NeighboursOfACircle(unittest.TestCase):
    def circles(self, root):
        heap = list(heap_circles(Four(root), 2))
        return heap[::3] + [opposite(circle) for circle in heap[::4]]

    def test_against_words(self):
        for root, four, expected in cases():
            for circle in self.circles(root):
                touching = [other for other in expected if touch(other, circle)]
                for kind in (tuple, list):
                    found = neighbours_of(four, kind(circle), most_of(root))
                    self.assertEqual(found, touching)
                    self.assertIs(found.__class__, list)

    def test_circles_that_are_not_in_the_heap(self):
        seen = {}
        four = walked(bugeye(), (2, 4))
        heap = found_by_words(BUGEYE, 60)
        others = [laid_circle(circle, 0, quarters, s, 0) for circle in BUGEYE for quarters in (0, 1) for s in (0, 1, 7)]
        others += [(0, 2, 0, 1), (0, -2, 0, -1), (0, 0, 1, 0), (-3, 0, 1, 0), (1, 0, 1, 0), (2, 0, 0, 1), (-5, 5, 5, 1)]
        for circle in others:
            if circle[2] ** 2 + circle[3] ** 2 - circle[0] * circle[1] != 1:
                continue
            touching = [other for other in heap if touch(other, circle)]
            self.assertEqual(neighbours_of(four, circle, 60), touching)
            seen[len(touching) > 0] = True
        self.assertEqual(sorted(seen), [False, True])

    def test_a_circle_that_holds_others(self):
        # The outer circle touches what lies at its edge; the circles within another one do not touch it.
        found = neighbours_of(bugeye(), BUGEYE[0], 20)
        self.assertEqual(found, [circle for circle in found_by_words(BUGEYE, 20) if touch(circle, BUGEYE[0])])
        self.assertNotIn(BUGEYE[0], found)
        # From around the whole heap only what is outside of it, and so nothing, touches this one.
        around = (1, -1, 0, 0)
        self.assertEqual(neighbours_of(bugeye(), around, 60), [])
        # A circle that touches another one from within has a double of 2, and does not touch it.
        inside = next(circle for circle in found_by_words(BUGEYE, 60) if relation(circle, around) == "touch inside")
        self.assertNotIn(inside, neighbours_of(bugeye(), around, 60))

    def test_lines(self):
        # A line at the edge of the heap touches no circle of it from outside but those that it meets there.
        line = (0, 2, 1, 0)
        for circle in neighbours_of(bugeye(), line, 100):
            self.assertTrue(touch(circle, line))
        self.assertEqual(neighbours_of(bugeye(), line, 100), [c for c in found_by_words(BUGEYE, 100) if touch(c, line)])
        self.assertEqual(neighbours_of(bugeye(), (0, 0, 1, 0), 2), [(2, 0, -1, 0)])

    def test_errors_come_in_order(self):
        for circle in NO_CIRCLES:
            for root in NEGATIVE_ROOTS[:2] + STRIPS:
                for most, limit in ((100, 2000), (100, 0), (-100, 5)):
                    self.assertIs(error_of(neighbours_of, Four(root), circle, most, limit=limit).__class__, InvalidCircle)


class Covers(unittest.TestCase):
    def test_whole_lists(self):
        for root, four, expected in cases():
            for curvature in sorted({circle[0] for circle in expected}):
                whole = [circle for circle in expected if circle[0] <= curvature]
                for order in (whole, whole[::-1], whole[1::2] + whole[::2], [list(circle) for circle in whole[::-1]]):
                    before = [tuple(circle) for circle in order]
                    self.assertIs(covers(four, order), True)
                    self.assertIs(covers(four, order, limit=len(whole)), True)
                    self.assertEqual([tuple(circle) for circle in order], before)

    def test_changed_lists(self):
        for root, four, expected in list(cases())[::3]:
            most = most_of(root) // 2
            whole = [circle for circle in expected if circle[0] <= most]
            next_one = min(circle for circle in expected if circle[0] > most)
            for at, circle in enumerate(whole):
                rest = whole[:at] + whole[at + 1:]
                # Without all circles of the greatest curvature it is whole again.
                still_whole = rest == [other for other in expected if rest and other[0] <= rest[-1][0]]
                self.assertIs(covers(four, rest), still_whole and rest != [])
                self.assertIs(covers(four, whole + [circle]), False)
                self.assertIs(covers(four, rest + [whole[at - 1]]), False)
                self.assertIs(covers(four, rest + [opposite(circle)]), False)
                moved = laid_circle(circle, 0, 0, 9, 2)
                self.assertIs(covers(four, rest + [moved]), False)
                self.assertIs(covers(four, whole + [moved]), False)
            more = [circle for circle in expected if circle[0] == next_one[0]]
            self.assertIs(covers(four, whole + more), True)
            self.assertIs(covers(four, whole + more[:1]), len(more) == 1)

    def test_the_empty_list(self):
        for root in NEGATIVE_ROOTS + STRIPS:
            for limit in (0, 2000):
                self.assertIs(covers(Four(root), [], limit=limit), False)

    def test_no_circles_come_first(self):
        for circle in NO_CIRCLES:
            for root in NEGATIVE_ROOTS[:2] + STRIPS:
                for circles in ([circle], [root[0], circle], [circle, root[0]], list(root) + [circle]):
                    for limit in (0, 2000):
                        self.assertIs(error_of(covers, Four(root), circles, limit=limit).__class__, InvalidCircle)

    def test_great_curvatures_in_the_list(self):
        far = walked(bugeye(), LONG_WORD).circle(3)
        error = error_of(covers, bugeye(), [far])
        self.assertIs(error.__class__, TooMany)
        self.assertEqual(error.limit, 2000)


class Arguments(unittest.TestCase):
    def test_new_lists_and_the_same_arguments(self):
        four = bugeye().exchanged(1)
        before = four.circles
        for action in (circles_up_to, curvatures_up_to, circles_of, first_circles):
            action(four, 6).clear()
            self.assertNotEqual(action(four, 6), [])
        circle = [2, 0, 1, 0]
        neighbours_of(four, circle, 10).clear()
        self.assertNotEqual(neighbours_of(four, circle, 10), [])
        circles = [[3, 1, 0, 2], [-1, 1, 0, 0]]
        covers(four, circles)
        self.assertEqual((circle, circles), ([2, 0, 1, 0], [[3, 1, 0, 2], [-1, 1, 0, 0]]))
        self.assertEqual(four.circles, before)


if __name__ == "__main__":
    unittest.main()
