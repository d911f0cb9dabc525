import unittest
from fractions import Fraction
from itertools import combinations, product

from fourtouch.circles import centre, is_circle, opposite, relation, side, touch
from fourtouch.errors import InvalidCircle, InvalidQuestion, InvalidWord, TooMany
from fourtouch.fours import Four
from fourtouch.points import (
    check_place, gap_circle, gap_of, is_touching, place_of, touching_point, touching_points, way_of,
)
from fourtouch.words import is_reduced
from tests.helper import (
    BUGEYE, LONG_WORD, ROOTS, bugeye, error_of, great_root, heap_circles, laid, strip, walked, words_up_to,
)

FOURS = tuple(walked(Four(root), word) for root in ROOTS for word in ((), (1, 2, 3), (4, 1)))
# Points all over the fours and around them, some with fractions that are not in lowest terms.
POINTS = tuple(
    ((p, under), (q, other)) for p, under in ((-7, 2), (-1, 1), (-2, 5), (0, 3), (1, 4), (1, 2), (2, 2), (9, 7), (40, 3))
    for q, other in ((-5, 1), (-2, 3), (-1, 2), (0, 1), (1, 6), (4, 6), (1, 1), (12, 5), (30, 1))
)
NO_POINTS = (
    ((0, 0), (1, 2)), ((1, 2), (0, 0)), ((1, -2), (1, 2)), ((1, 2), (-1, -2)), ((0, -1), (0, 1)), ((1, 0), (1, 0)),
    ((3, 1), (0, -10 ** 30)),
)
NO_CIRCLES = ((3, 1, 0, 3), (1, 1, 1, 2), (0, 0, 0, 0), (3, 1, 0), (), [3, 1, 0, 2, 0])
NO_WORDS = ((0,), (5,), (1, True), ["2"], (None,), (1, 2, -3))
NO_NUMBERS = (0, 5, -1, 10 ** 30)


def plain(point):
    """A point as two fractions of Python."""
    return tuple(Fraction(*part) for part in point)


def as_told(p, q):
    """A point of two fractions of Python as it is told."""
    return tuple((Fraction(part).numerator, Fraction(part).denominator) for part in (p, q))


def value(parts, point):
    """The number of point 3 for four integers and a point."""
    b, c, x, y = parts
    p, q = plain(point)
    return b * (p * p + q * q) - 2 * (x * p + y * q) + c


def sides(four, point):
    return [side(circle, point) for circle in four.circles]


def gap(four, point):
    """The number of the gap in which a point lies, or None, by the circles around the gaps."""
    if max(sides(four, point)) >= 0:
        return None
    found = []
    for number in (1, 2, 3, 4):
        rows = [sum(parts) - 2 * parts[number - 1] for parts in zip(*four.circles)]
        if value(rows, point) < 0:
            found.append(number)
    assert len(found) == 1
    return found[0]


def walk_towards(four, point, steps):
    """The word towards a point, at most so many steps, and the four there, one exchange after another."""
    word = ()
    while len(word) < steps and gap(four, point) is not None:
        word += (gap(four, point),)
        four = four.exchanged(word[-1])
    return word, four


def place(four, point):
    """Where a point is, by the fours on the way towards it."""
    word, there = walk_towards(four, point, 10 ** 6)
    told = sides(there, point)
    if 1 in told:
        return ("inside", word, told.index(1) + 1)
    return ("on", word, told.index(0) + 1)


class TouchingPoints(unittest.TestCase):
    def test_examples(self):
        four = bugeye()
        self.assertEqual(touching_point(four.circle(1), four.circle(4)), ((0, 1), (1, 1)))
        self.assertEqual(gap_circle(four, 4), (0, 0, 0, -2))
        self.assertEqual(gap_circle(four, 1), (8, 0, 0, 2))
        self.assertEqual(gap_of(four, ((0, 1), (-1, 2))), 4)
        self.assertEqual(place_of(four, ((0, 1), (-1, 2))), ("inside", (4,), 4))
        self.assertEqual(place_of(four, ((0, 1), (1, 4))), ("inside", (1,), 1))

    def assert_point(self, one, other):
        told = touching_point(one, other)
        if one[0] == other[0] == 0:
            self.assertIsNone(told)
            return
        curvature = one[0] + other[0]
        expected = as_told(Fraction(one[2] + other[2], curvature), Fraction(one[3] + other[3], curvature))
        self.assertEqual(told, expected)
        self.assertIs(told.__class__, tuple)
        self.assertTrue(all(part.__class__ is tuple for part in told))
        self.assertEqual((side(one, told), side(other, told)), (0, 0))
        self.assertIs(is_touching(one, other, told), True)

    def test_circles_of_heaps(self):
        lines = 0
        for four in FOURS:
            circles = list(heap_circles(four, 2))
            for one, other in product(circles, repeat=2):
                if touch(one, other):
                    self.assert_point(one, other)
                    self.assertEqual(touching_point(list(one), list(other)), touching_point(one, other))
                    self.assertEqual(touching_point(other, one), touching_point(one, other))
                    lines += (one[0] == 0) + (other[0] == 0)
                else:
                    self.assertIs(error_of(touching_point, one, other).__class__, InvalidQuestion)
        self.assertGreater(lines, 50)

    def test_two_lines(self):
        self.assertIsNone(touching_point((0, 2, 1, 0), (0, 2, -1, 0)))
        self.assertIsNone(touching_point((0, -4, 0, 1), (0, 9, 0, -1)))

    def test_a_circle_and_a_line(self):
        self.assertEqual(touching_point((0, 2, -1, 0), (1, 0, 0, 1)), ((-1, 1), (1, 1)))
        self.assertEqual(touching_point((1, 0, 0, 1), (0, 2, 1, 0)), ((1, 1), (1, 1)))

    def test_two_circles(self):
        self.assertEqual(touching_point((-1, 1, 0, 0), (2, 0, 1, 0)), ((1, 1), (0, 1)))
        self.assertEqual(touching_point((3, 1, 0, 2), (2, 0, -1, 0)), ((-1, 5), (2, 5)))
        self.assertEqual(touching_point((2, 0, -1, 0), (3, 1, 0, 2)), ((-1, 5), (2, 5)))

    def test_circles_that_do_not_touch(self):
        circles = [circle for circle in product(range(-3, 5), repeat=4) if is_circle(circle)]
        told = set()
        for one, other in product(circles[::3], circles[::7]):
            lie = relation(one, other)
            told.add(lie)
            error = error_of(touching_point, one, other)
            self.assertIs(error.__class__, None.__class__ if lie == "touch" else InvalidQuestion)
        self.assertEqual(told, {"same", "opposite", "touch", "touch around", "apart", "around", "touch inside",
                                "nested", "cross"})

    def test_all_points_of_a_four(self):
        for four in FOURS:
            told = touching_points(four)
            self.assertIs(told.__class__, list)
            self.assertEqual([row[:2] for row in told], [(1, 2), (1, 3), (1, 4), (2, 3), (2, 4), (3, 4)])
            for row in told:
                self.assertIs(row.__class__, tuple)
                low, high, point = row
                self.assertEqual(point, touching_point(four.circle(low), four.circle(high)))
            self.assertEqual([row[2] for row in told].count(None), int(four.is_strip()))
            told.pop()
            self.assertEqual(len(touching_points(four)), 6)

    def test_the_points_of_a_strip(self):
        self.assertEqual(touching_points(strip()), [
            (1, 2, None), (1, 3, ((-1, 1), (-1, 1))), (1, 4, ((-1, 1), (1, 1))),
            (2, 3, ((1, 1), (-1, 1))), (2, 4, ((1, 1), (1, 1))), (3, 4, ((0, 1), (0, 1))),
        ])

    def test_great_integers(self):
        four = walked(bugeye(), LONG_WORD)
        for one, other in combinations(four.circles, 2):
            self.assert_point(one, other)


class IsTouching(unittest.TestCase):
    def test_at_points_on_both_on_one_and_on_none(self):
        told = set()
        for four in FOURS[::2]:
            points = [point for _, _, point in touching_points(four) if point] + list(POINTS[::5])
            circles = list(four.circles) + [four.other(number) for number in (1, 2, 3, 4)] + [opposite(four.circle(1))]
            for one, other in product(circles, repeat=2):
                for point in points:
                    right = touch(one, other) and value(one, point) == 0 and value(other, point) == 0
                    self.assertIs(is_touching(one, other, point), right)
                    self.assertIs(is_touching(list(one), list(other), [list(part) for part in point]), right)
                    on = (side(one, point) == 0) + (side(other, point) == 0)
                    told.add((touch(one, other), on))
        self.assertEqual(told, {(True, 0), (True, 1), (True, 2), (False, 0), (False, 1), (False, 2)})

    def test_fractions_that_are_not_in_lowest_terms(self):
        for point in (((-1, 5), (2, 5)), ((-2, 10), (2, 5)), ((-3, 15), (6, 15)), ((-10 ** 30, 5 * 10 ** 30), (4, 10))):
            self.assertIs(is_touching((3, 1, 0, 2), (2, 0, -1, 0), point), True)
        self.assertIs(is_touching((3, 1, 0, 2), (2, 0, -1, 0), ((-2, 5), (4, 5))), False)

    def test_known_relations(self):
        # The point is on both circles, but these are opposite, touch around, touch inside or are the same.
        one = (2, 0, 1, 0)
        for other, point in (((-2, 0, -1, 0), ((1, 1), (0, 1))), ((-2, 0, 1, 0), ((0, 1), (0, 1))),
                             ((1, -1, 0, 0), ((1, 1), (0, 1))), (one, ((1, 1), (0, 1)))):
            self.assertEqual((side(one, point), side(other, point)), (0, 0))
            self.assertIs(is_touching(one, other, point), False)
        self.assertEqual(relation((-2, 0, -1, 0), (-2, 0, 1, 0)), "touch around")
        self.assertIs(is_touching((-2, 0, -1, 0), (-2, 0, 1, 0), ((0, 1), (0, 1))), False)
        self.assertIs(is_touching((0, 2, 1, 0), (0, 2, -1, 0), ((1, 1), (0, 1))), False)


class Gaps(unittest.TestCase):
    def test_circles_by_hand(self):
        self.assertEqual([gap_circle(bugeye(), number) for number in (1, 2, 3, 4)],
                         [(8, 0, 0, 2), (2, 2, -2, 2), (2, 2, 2, 2), (0, 0, 0, -2)])
        self.assertEqual([gap_circle(strip(), number) for number in (1, 2, 3, 4)],
                         [(2, 0, 2, 0), (2, 0, -2, 0), (0, 4, 0, 2), (0, 4, 0, -2)])

    def test_circles_by_the_touching_points(self):
        for four in FOURS:
            for number in (1, 2, 3, 4):
                told = gap_circle(four, number)
                self.assertIs(told.__class__, tuple)
                self.assertEqual(told, tuple(sum(parts) - 2 * parts[number - 1] for parts in zip(*four.circles)))
                b, c, x, y = told
                self.assertEqual(x * x + y * y - b * c, 4)
                for low, high, point in touching_points(four):
                    if point is not None and number not in (low, high):
                        self.assertEqual(value(told, point), 0)
                    elif point is not None:
                        self.assertGreater(value(told, point), 0)

    def test_no_numbers(self):
        for number in NO_NUMBERS:
            self.assertIs(error_of(gap_circle, bugeye(), number).__class__, InvalidQuestion)

    def test_known_points(self):
        for point, number in (
            (((0, 1), (-1, 2)), 4), (((0, 1), (1, 6)), 1), (((-3, 5), (3, 5)), 2), (((3, 5), (3, 5)), 3),
            (((1, 2), (0, 1)), None), (((0, 1), (0, 1)), None), (((1, 1), (0, 1)), None), (((5, 1), (5, 1)), None),
            (((0, 1), (1, 1)), None), (((1, 1), (0, 1)), None), (((0, 1), (1, 3)), None), (((0, 1), (1, 4)), 1),
        ):
            self.assertEqual(gap_of(bugeye(), point), number, point)
        for point, number in (
            (((0, 1), (5, 1)), 3), (((0, 1), (-5, 1)), 4), (((3, 4), (0, 1)), 1), (((-3, 4), (0, 1)), 2),
            (((1, 1), (9, 1)), None), (((2, 1), (0, 1)), None), (((0, 1), (1, 1)), None), (((0, 1), (0, 1)), None),
        ):
            self.assertEqual(gap_of(strip(), point), number, point)

    def test_against_the_circles_around(self):
        told = set()
        for four in FOURS:
            for point in POINTS:
                number = gap_of(four, point)
                self.assertEqual(number, gap(four, point))
                self.assertEqual(gap_of(four, [list(part) for part in point]), number)
                told.add((number, four.is_strip()))
        self.assertEqual(told, {(number, flat) for number in (1, 2, 3, 4, None) for flat in (True, False)})

    def test_centres_and_touching_points(self):
        for four in FOURS:
            for circle in four.circles:
                if circle[0] > 0:
                    self.assertIsNone(gap_of(four, centre(circle)))
            for _, _, point in touching_points(four):
                if point is not None:
                    self.assertIsNone(gap_of(four, point))
            for number in (1, 2, 3, 4):
                other = four.other(number)
                if other[0] > 0:
                    self.assertEqual(gap_of(four, centre(other)), number)

    def test_behind_an_exchange(self):
        for four in FOURS:
            for point in POINTS:
                number = gap_of(four, point)
                if number is not None:
                    there = four.exchanged(number)
                    on_or_in = side(there.circle(number), point) >= 0
                    following = gap_of(there, point)
                    self.assertTrue(on_or_in if following is None else following != number)
                    self.assertEqual(following is None, on_or_in)


class Ways(unittest.TestCase):
    def test_against_one_exchange_after_another(self):
        lengths = set()
        for four in FOURS:
            for point in POINTS[::2]:
                for steps in (0, 1, 2, 3, 50):
                    told = way_of(four, point, steps)
                    self.assertIs(told.__class__, tuple)
                    self.assertEqual(told, walk_towards(four, point, steps)[0])
                    self.assertEqual(told, way_of(four, point, 10 ** 30)[:steps])
                    self.assertLessEqual(len(told), steps)
                    lengths.add(len(told))
        self.assertLessEqual(set(range(5)), lengths)

    def test_no_steps(self):
        for four in FOURS:
            for point in POINTS[::3]:
                self.assertEqual(way_of(four, point, 0), ())

    def test_towards_a_far_circle(self):
        four = bugeye()
        for word in (LONG_WORD[:90], (1, 2, 3, 4) * 30, (4, 3) * 40 + (1,)):
            circle = walked(four, word).circle(word[-1])
            for steps in (0, 1, 7, len(word) - 1, len(word), len(word) + 5):
                self.assertEqual(way_of(four, centre(circle), steps), word[:steps])

    def test_below_0(self):
        for steps in (-1, -2, -10 ** 30):
            for point in POINTS[::9]:
                self.assertIs(error_of(way_of, bugeye(), point, steps).__class__, InvalidQuestion)


class Places(unittest.TestCase):
    def test_against_one_exchange_after_another(self):
        kinds = set()
        for four in FOURS:
            for point in POINTS:
                told = place_of(four, point)
                self.assertIs(told.__class__, tuple)
                self.assertEqual(told, place(four, point))
                self.assertEqual(place_of(four, [list(part) for part in point]), told)
                kind, word, number = told
                self.assertIs(word.__class__, tuple)
                self.assertTrue(is_reduced(word))
                if word:
                    self.assertEqual(word[-1], number)
                self.assertIs(check_place(four, point, told), True)
                kinds.add((kind, min(len(word), 2)))
        self.assertEqual(kinds, {(kind, size) for kind in ("inside", "on") for size in (0, 1, 2)})

    def test_own_circles(self):
        for four in FOURS:
            for number, circle in enumerate(four.circles, start=1):
                if circle[0] > 0:
                    self.assertEqual(place_of(four, centre(circle)), ("inside", (), number))
                    self.assertEqual(place_of(four, centre(circle), limit=0), ("inside", (), number))
            for low, _, point in touching_points(four):
                if point is not None:
                    self.assertEqual(place_of(four, point), ("on", (), low))
        # A point outside of the circle that holds all others is inside of it.
        self.assertEqual(place_of(bugeye(), ((9, 1), (0, 1))), ("inside", (), 1))
        self.assertEqual(place_of(strip(), ((3, 1), (5, 7))), ("inside", (), 2))
        self.assertEqual(place_of(strip(), ((-1, 1), (5, 7))), ("on", (), 1))

    def test_on_one_circle(self):
        # A point of the circle around all others that none of the four touches there.
        self.assertEqual(place_of(bugeye(), ((3, 5), (4, 5))), ("on", (), 1))
        self.assertEqual(place_of(bugeye().exchanged(1), ((3, 5), (4, 5)))[0], "on")
        self.assertEqual(place_of(bugeye(), ((1, 2), (1, 2))), ("on", (), 2))

    def test_circles_behind_words(self):
        for four in FOURS[::3]:
            for circle, (word, number) in heap_circles(four, 4).items():
                if circle[0] > 0:
                    self.assertEqual(place_of(four, centre(circle)), ("inside", word, number))

    def test_touching_points_of_circles_of_the_heap(self):
        for four in FOURS[::4]:
            circles = heap_circles(four, 3)
            for one, other in combinations(circles, 2):
                if touch(one, other):
                    point = touching_point(one, other)
                    if point is None:
                        continue
                    kind, word, number = place_of(four, point)
                    self.assertEqual(kind, "on")
                    found = walked(four, word).circle(number)
                    self.assertIn(found, (one, other))
                    # Told is the one with the shorter address, or of two of the four the one with the lesser number.
                    first = min((circles[one], circles[other]), key=lambda row: (len(row[0]), row[1]))
                    self.assertEqual((word, number), first)

    def test_at_most_two_circles(self):
        for four in FOURS[::3]:
            circles = heap_circles(four, 4)
            for point in POINTS + tuple(row[2] for row in touching_points(four) if row[2]):
                told = [side(circle, point) for circle in circles]
                self.assertLessEqual(told.count(1), 1)
                self.assertLessEqual(told.count(0), 2 - 2 * told.count(1))

    def test_limits(self):
        lengths = set()
        for four in FOURS[::2]:
            for point in POINTS[::2]:
                told = place_of(four, point)
                size = len(told[1])
                lengths.add(size)
                for limit in (size, size + 1, 10 ** 30):
                    self.assertEqual(place_of(four, point, limit=limit), told)
                for limit in range(max(0, size - 3), size):
                    error = error_of(place_of, four, point, limit=limit)
                    self.assertIs(error.__class__, TooMany)
                    self.assertEqual(error.limit, limit)
        self.assertLessEqual({0, 1, 2, 3}, lengths)

    def test_the_limit_that_is_not_told(self):
        four = bugeye()
        word = (1, 2, 3) * 333 + (1,)
        self.assertEqual(len(word), 1000)
        circle = walked(four, word).circle(1)
        self.assertEqual(place_of(four, centre(circle)), ("inside", word, 1))
        circle = walked(four, word + (2,)).circle(2)
        error = error_of(place_of, four, centre(circle))
        self.assertIs(error.__class__, TooMany)
        self.assertEqual(error.limit, 1000)
        self.assertEqual(place_of(four, centre(circle), limit=1001), ("inside", word + (2,), 2))

    def test_great_integers(self):
        for four in (great_root(10 ** 300), walked(bugeye(), LONG_WORD[:200])):
            word = (1, 2, 3, 4, 1)
            circle = walked(four, word).circle(1)
            self.assertEqual(place_of(four, centre(circle)), ("inside", word, 1))
            self.assertIs(check_place(four, centre(circle), ("inside", word, 1)), True)
        four = laid(bugeye(), 0, 0, 10 ** 100, 3)
        self.assertEqual(place_of(four, ((4 * 10 ** 100, 4), (13, 4))), ("inside", (1,), 1))


class CheckingPlaces(unittest.TestCase):
    def test_against_the_circles(self):
        told = set()
        for four in FOURS[::3]:
            for point in POINTS[::3] + tuple(row[2] for row in touching_points(four) if row[2])[:2]:
                for word in words_up_to(2):
                    there = walked(four, word)
                    for number in (1, 2, 3, 4):
                        lie = side(there.circle(number), point)
                        inside = check_place(four, point, ("inside", word, number))
                        on = check_place(four, point, ("on", word, number))
                        self.assertIs(inside, lie == 1)
                        self.assertIs(on, lie == 0)
                        told.add((inside, on))
        self.assertEqual(told, {(True, False), (False, True), (False, False)})

    def test_several_places_for_one_point(self):
        four, point = bugeye(), ((0, 1), (1, 4))
        for word in ((1,), (1, 2), (1, 2, 3), (2, 2, 1), (1, 4, 4, 3)):
            self.assertIs(check_place(four, point, ("inside", word, 1)), True)
        for word in ((), (2,), (1, 1), (4, 3)):
            self.assertIs(check_place(four, point, ("inside", word, 1)), False)
        point = touching_point(four.circle(2), four.circle(4))
        for number in (2, 4):
            self.assertIs(check_place(four, point, ("on", (), number)), True)
            self.assertIs(check_place(four, point, ("on", (1, 3), number)), True)
            self.assertIs(check_place(four, point, ("inside", (), number)), False)
        self.assertIs(check_place(four, point, ("on", (), 1)), False)

    def test_words_that_are_not_reduced(self):
        for four in FOURS[::4]:
            for point in POINTS[::4]:
                kind, word, number = place_of(four, point)
                for longer in ((3, 3) + word, word + (2, 2), word[:1] * 3 + word[1:], list((4, 1, 1, 4) + word)):
                    self.assertIs(check_place(four, point, (kind, longer, number)), True)
                self.assertIs(check_place(four, point, [kind, list(word), number]), True)

    def test_other_kinds(self):
        four, point = bugeye(), ((0, 1), (1, 4))
        for kind in ("", "Inside", "outside", "ON", "on ", "in", "gap", "inside of", "none"):
            self.assertIs(check_place(four, point, (kind, (1,), 1)), False)
            self.assertIs(check_place(four, ((1, 1), (0, 1)), (kind, (), 1)), False)
        self.assertIs(check_place(four, point, ("on", (1,), 1)), False)
        self.assertIs(check_place(four, ((1, 1), (0, 1)), ("inside", (), 1)), False)

    def test_long_words(self):
        four = bugeye()
        circle = walked(four, LONG_WORD).circle(LONG_WORD[-1])
        told = ("inside", LONG_WORD, LONG_WORD[-1])
        self.assertEqual(place_of(four, centre(circle)), told)
        self.assertIs(check_place(four, centre(circle), told), True)
        self.assertIs(check_place(four, centre(circle), ("inside", LONG_WORD[:-1], LONG_WORD[-1])), False)


class Errors(unittest.TestCase):
    def test_no_circles(self):
        right = (2, 0, 1, 0)
        for wrong in NO_CIRCLES:
            for one, other in ((wrong, right), (right, wrong), (wrong, wrong), (wrong, (1, 1, 1, 2))):
                self.assertIs(error_of(touching_point, one, other).__class__, InvalidCircle)
                for point in (POINTS[0],) + NO_POINTS:
                    self.assertIs(error_of(is_touching, one, other, point).__class__, InvalidCircle)

    def test_no_points(self):
        one, other = (2, 0, 1, 0), (2, 0, -1, 0)
        for point in NO_POINTS:
            for circle in (other, one, opposite(one), (15, 1, 0, 4)):
                self.assertIs(error_of(is_touching, one, circle, point).__class__, InvalidQuestion)
            for four in (bugeye(), strip()):
                self.assertIs(error_of(gap_of, four, point).__class__, InvalidQuestion)
                for steps in (0, 5, -1):
                    self.assertIs(error_of(way_of, four, point, steps).__class__, InvalidQuestion)
                for limit in (0, 1000):
                    self.assertIs(error_of(place_of, four, point, limit=limit).__class__, InvalidQuestion)
                for kind in ("inside", "on", "other"):
                    for number in (1,) + NO_NUMBERS:
                        told = (kind, (1, 2), number)
                        self.assertIs(error_of(check_place, four, point, told).__class__, InvalidQuestion)

    def test_no_words(self):
        for word in NO_WORDS:
            for point in (POINTS[0], NO_POINTS[0]):
                for kind in ("inside", "on", "other"):
                    for number in (1, 4) + NO_NUMBERS:
                        told = (kind, word, number)
                        self.assertIs(error_of(check_place, bugeye(), point, told).__class__, InvalidWord)

    def test_no_numbers(self):
        for number in NO_NUMBERS:
            for kind in ("inside", "on", "other"):
                for point in POINTS[::20]:
                    told = (kind, (1,), number)
                    self.assertIs(error_of(check_place, bugeye(), point, told).__class__, InvalidQuestion)

    def test_arguments_stay_as_they_are(self):
        four, point, word = bugeye(), [[0, 1], [2, 8]], [1, 2, 2]
        one, other = [2, 0, 1, 0], [2, 0, -1, 0]
        touching_point(one, other)
        is_touching(one, other, point)
        gap_of(four, point)
        way_of(four, point, 5)
        place_of(four, point)
        self.assertIs(check_place(four, point, ["inside", word, 1]), True)
        self.assertEqual((point, word), ([[0, 1], [2, 8]], [1, 2, 2]))
        self.assertEqual((one, other), ([2, 0, 1, 0], [2, 0, -1, 0]))
        self.assertEqual(four.circles, BUGEYE)


if __name__ == "__main__":
    unittest.main()
