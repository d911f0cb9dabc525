import unittest
from itertools import permutations

from fourtouch.errors import InvalidWord
from fourtouch.fours import Four
from fourtouch.roots import (
    alike_heaps, check_heap_paper, heap_paper, root_curvatures, root_of, way_down,
)
from fourtouch.words import reduced
from tests.helper import (
    BUGEYE, LONG_WORD, NEGATIVE_ROOTS, ROOTS, STRIPS, all_reduced, bugeye, error_of, laid, reduced_up_to, strip, walked,
    words_up_to,
)

LOW_ROOTS = tuple(root for root in NEGATIVE_ROOTS if 2 * max(Four(root).curvatures()) < sum(Four(root).curvatures()))
SUM_ROOTS = tuple(root for root in NEGATIVE_ROOTS if root not in LOW_ROOTS)
NO_WAYS = ((0,), (1, 5), (True,), [1, 2, -3], (1, None), ["2"], (3, 3, 6))


def greatest_number(root):
    curvatures = Four(root).curvatures()
    return curvatures.index(max(curvatures)) + 1


def led_down(four):
    """The way down and its end as point 28 tells them, with all that it promises on the way."""
    way = []
    while True:
        curvatures = four.curvatures()
        above = [n for n in (1, 2, 3, 4) if curvatures[n - 1] > sum(curvatures) - curvatures[n - 1]]
        assert len(above) <= 1
        if not above:
            return tuple(way), four
        behind = four.exchanged(above[0])
        assert behind.curvatures()[above[0] - 1] < curvatures[above[0] - 1]
        assert sum(behind.curvatures()) < sum(curvatures)
        way.append(above[0])
        four = behind


class WaysDown(unittest.TestCase):
    def test_example(self):
        four = bugeye().exchanged(1).exchanged(2)
        self.assertEqual(four.curvatures(), (15, 38, 2, 3))
        self.assertEqual(way_down(four), (2, 1))
        self.assertEqual(root_curvatures(four), (-1, 2, 2, 3))

    def test_both_kinds_of_roots_are_looked_at(self):
        self.assertGreaterEqual(len(LOW_ROOTS), 3)
        self.assertGreaterEqual(len(SUM_ROOTS), 3)

    def test_against_one_exchange_after_another(self):
        for root in ROOTS:
            for word in words_up_to(4)[::3]:
                four = walked(Four(root), word)
                before = four.circles
                way, end = led_down(four)
                self.assertEqual(way_down(four), way)
                self.assertIs(way_down(four).__class__, tuple)
                self.assertEqual(root_of(four).circles, end.circles)
                self.assertIs(root_of(four).__class__, Four)
                self.assertIs(root_of(four).is_root(), True)
                self.assertEqual(root_curvatures(four), tuple(sorted(Four(root).curvatures())))
                self.assertIs(root_curvatures(four).__class__, tuple)
                self.assertEqual(four.circles, before)

    def test_a_root_is_returned_as_it_is(self):
        for root in ROOTS:
            for circles in permutations(root):
                four = Four(circles)
                self.assertEqual(way_down(four), ())
                self.assertIs(root_of(four), four)
                self.assertEqual(four.circles, circles)

    def test_the_curvatures_of_roots(self):
        for root in ROOTS:
            a, b, c, d = root_curvatures(walked(Four(root), (1, 2, 4, 3)))
            self.assertTrue(a <= b <= c <= d)
            self.assertTrue(a < 0 < b or (a, b, c) == (0, 0, d))

    def test_the_way_up_backwards(self):
        for root in LOW_ROOTS:
            for word in reduced_up_to(5)[::2]:
                self.assertEqual(way_down(walked(Four(root), word)), word[::-1])
                self.assertEqual(root_of(walked(Four(root), word)).circles, root)

    def test_each_exchange_makes_more_than_the_sum(self):
        for root in LOW_ROOTS:
            for word in all_reduced(4):
                curvatures = walked(Four(root), word).curvatures()
                self.assertGreater(2 * curvatures[word[-1] - 1], sum(curvatures))

    def test_a_greatest_that_is_the_sum(self):
        for root in SUM_ROOTS:
            number = greatest_number(root)
            other = Four(root).exchanged(number)
            self.assertEqual(other.curvatures(), Four(root).curvatures())
            self.assertNotEqual(other.circles, root)
            self.assertEqual(way_down(other), ())
            for word in reduced_up_to(5)[1::2]:
                four = walked(Four(root), word)
                if word[0] == number:
                    self.assertEqual(way_down(four), word[:0:-1])
                    self.assertEqual(root_of(four).circles, other.circles)
                else:
                    self.assertEqual(way_down(four), word[::-1])
                    self.assertEqual(root_of(four).circles, root)

    def test_strips(self):
        for root in STRIPS:
            for word in reduced_up_to(4):
                end = root_of(walked(Four(root), word))
                self.assertIs(end.is_strip(), True)
                self.assertEqual(sorted(end.curvatures()), sorted(Four(root).curvatures()))
            # Exchanging a circle between the lines makes another root, as often as wished.
            self.assertEqual(way_down(walked(Four(root), (3, 4) * 5)), ())
            self.assertNotEqual(walked(Four(root), (3, 4) * 5).circles, root)
            self.assertEqual(way_down(walked(Four(root), (3, 4, 1, 2, 3))), (3, 2, 1))

    def test_long_ways_with_great_integers(self):
        for root in NEGATIVE_ROOTS:
            four = walked(Four(root), LONG_WORD)
            self.assertGreater(max(four.curvatures()), 10 ** 100)
            self.assertEqual(way_down(four), LONG_WORD[::-1])
            self.assertEqual(root_of(four).circles, root)
            self.assertEqual(root_curvatures(four), tuple(sorted(Four(root).curvatures())))
        for root in STRIPS:
            self.assertEqual(root_of(walked(Four(root), LONG_WORD)).circles, root)

    def test_very_long_ways(self):
        word = (3, 4) * 3000
        self.assertEqual(way_down(walked(Four(LOW_ROOTS[0]), word)), word[::-1])
        word = (1, 3, 2, 4) * 800
        self.assertEqual(way_down(walked(Four(LOW_ROOTS[0]), word)), word[::-1])

    def test_great_roots(self):
        # A root with great curvatures: (-m, m + 1, m * (m + 1), m * (m + 1) + 1), lying on one line.
        m = 10 ** 40
        four = Four([(-m, 0, -1, 0), (m + 1, 0, 1, 0), (m * (m + 1), 4, 2 * m + 1, 0), (m * (m + 1) + 1, 4, 2 * m + 1, 2)])
        self.assertIs(root_of(four), four)
        self.assertEqual(root_of(walked(four, (1, 2, 3, 4, 1))).circles, four.circles)
        self.assertEqual(root_curvatures(four.exchanged(2)), (-m, m + 1, m * (m + 1), m * (m + 1) + 1))


class AlikeHeaps(unittest.TestCase):
    def test_fours_of_one_root(self):
        for root in ROOTS:
            for at, word in enumerate(reduced_up_to(3)[::5]):
                one = walked(Four(root), word)
                others = [walked(Four(root), word[::-1]), Four(root).with_order((3, 1, 4, 2)).exchanged(2)]
                others.append(laid(walked(Four(root), (2, 1, 3)), at % 2, at % 4, at - 5, 3 - at))
                others.append(laid(one, (at + 1) % 2, at % 3, 10 ** 20, -at).with_order((2, 3, 4, 1)))
                for other in others:
                    self.assertIs(alike_heaps(one, other), True)
                    self.assertIs(alike_heaps(other, one), True)

    def test_fours_of_other_roots(self):
        for root, other_root in permutations(ROOTS, 2):
            for word in ((), (1,), (2, 3), (4, 1, 2)):
                one = walked(Four(root), word)
                other = walked(Four(other_root), word[::-1])
                self.assertIs(alike_heaps(one, other), False)

    def test_the_other_root_of_one_heap(self):
        for root in SUM_ROOTS:
            other = Four(root).exchanged(greatest_number(root))
            self.assertIs(alike_heaps(Four(root), other), True)


class Papers(unittest.TestCase):
    def pairs(self):
        for at, root in enumerate(ROOTS):
            for other_root in (root, ROOTS[(at + 1) % len(ROOTS)], ROOTS[at - 2]):
                for word, other_word in (((), ()), ((1, 2), (3,)), ((4, 3, 2), (1, 2, 3, 1)), ((2,), ())):
                    yield walked(Four(root), word), walked(Four(other_root), other_word).with_order((2, 4, 1, 3))

    def test_papers_that_are_told(self):
        for one, other in self.pairs():
            paper = heap_paper(one, other)
            word = "alike" if alike_heaps(one, other) else "unlike"
            self.assertEqual(paper, (word, led_down(one)[0], led_down(other)[0]))
            self.assertIs(paper.__class__, tuple)
            self.assertIs(paper[1].__class__, tuple)
            self.assertIs(paper[2].__class__, tuple)
            self.assertIs(check_heap_paper(one, other, paper), True)
            self.assertIs(check_heap_paper(one, other, (word, list(paper[1]), list(paper[2]))), True)

    def test_papers_with_another_word(self):
        for one, other in self.pairs():
            word, way, other_way = heap_paper(one, other)
            swapped = "unlike" if word == "alike" else "alike"
            for wrong in (swapped, "", "Alike", "alike ", "same", "unlik"):
                self.assertIs(check_heap_paper(one, other, (wrong, way, other_way)), False, wrong)

    def test_changed_ways(self):
        one = walked(Four(LOW_ROOTS[0]), (1, 2, 3))
        other = laid(walked(Four(LOW_ROOTS[0]), (4, 1)), 1, 1, 2, 3)
        third = walked(Four(LOW_ROOTS[1]), (2, 4))
        for two, told in ((other, "alike"), (third, "unlike")):
            word, way, other_way = heap_paper(one, two)
            self.assertEqual(word, told)
            changed = [
                (way[1:], other_way), (way[:-1], other_way), (way, other_way[:-1]), (way, other_way[1:]),
                (way + (4,), other_way), (way, other_way + (2,)), ((1,) + way, other_way), (other_way, way),
                (way[::-1], other_way), ((), ()), (way, ()), ((), other_way),
            ]
            for ways in changed:
                self.assertIs(check_heap_paper(one, two, (word,) + ways), False, (word, ways))
            # A word that is not reduced leads to the same four, so it is right.
            self.assertIs(check_heap_paper(one, two, (word, way + (3, 3), (1, 1) + other_way)), True)

    def test_alike_needs_no_roots(self):
        for root in ROOTS:
            other = laid(Four(root), 1, 3, -4, 7)
            for word in ((), (1,), (2, 1), (3, 4, 1)):
                self.assertIs(check_heap_paper(Four(root), other, ("alike", word, word)), True)
        one = Four(LOW_ROOTS[0])
        other = one.with_order((4, 3, 2, 1))
        self.assertIs(check_heap_paper(one, other, ("alike", (1, 2), (4, 3))), True)
        self.assertIs(check_heap_paper(one, other, ("alike", (1, 2), (1, 2))), False)

    def test_unlike_needs_roots_with_other_curvatures(self):
        one, other = Four(LOW_ROOTS[0]), Four(LOW_ROOTS[1])
        self.assertIs(check_heap_paper(one, other, ("unlike", (), ())), True)
        self.assertIs(check_heap_paper(one, other, ("unlike", (1,), ())), False)
        self.assertIs(check_heap_paper(one, other, ("unlike", (), (1,))), False)
        self.assertIs(check_heap_paper(one, other, ("unlike", (2,), (3,))), False)
        self.assertIs(check_heap_paper(one, one, ("unlike", (), ())), False)
        self.assertIs(check_heap_paper(one, one.with_order((4, 2, 1, 3)), ("unlike", (), ())), False)
        self.assertIs(check_heap_paper(one, one, ("unlike", (1,), (2,))), False)
        root = bugeye()
        self.assertIs(check_heap_paper(root, other, ("unlike", (4,), ())), True)
        self.assertIs(check_heap_paper(strip(), other, ("unlike", (3, 4, 3), ())), True)

    def test_ways_that_are_no_words(self):
        one, other = bugeye().exchanged(1), Four(LOW_ROOTS[0])
        for way in NO_WAYS:
            for word in ("alike", "unlike", "", "other"):
                for ways in ((way, ()), ((), way), (way, way), ((1,), way), (way, (1, 2)), (way, (9,))):
                    self.assertIs(error_of(check_heap_paper, one, other, (word,) + ways).__class__, InvalidWord)

    def test_long_papers(self):
        one = walked(Four(LOW_ROOTS[0]), LONG_WORD)
        other = laid(walked(Four(LOW_ROOTS[0]), LONG_WORD[::-1]), 1, 2, 10 ** 50, 3)
        paper = heap_paper(one, other)
        self.assertEqual(paper, ("alike", LONG_WORD[::-1], LONG_WORD))
        self.assertIs(check_heap_paper(one, other, paper), True)
        self.assertIs(check_heap_paper(one, other, ("alike", LONG_WORD[::-1], LONG_WORD[:-1])), False)

    def test_arguments_stay_as_they_are(self):
        one, other = bugeye().exchanged(2), strip().exchanged(1)
        ways = ([2, 1, 1], [1])
        self.assertIs(check_heap_paper(one, other, ("unlike",) + ways), True)
        self.assertEqual(ways, ([2, 1, 1], [1]))
        heap_paper(one, other)
        self.assertEqual(one.circles, bugeye().exchanged(2).circles)
        self.assertEqual(other.circles, strip().exchanged(1).circles)
        self.assertEqual(reduced(ways[0]), (2,))
        self.assertEqual(bugeye().circles, BUGEYE)


if __name__ == "__main__":
    unittest.main()
