"""All examples of the interface, each block in a fresh set of names."""

import ast
import unittest

from fourtouch.errors import FourtouchError

# As they stand in the document: what a line returns stands below it, or the error that it raises.
EXAMPLES = r'''
>>> from fourtouch.circles import centre, double, relation, side
>>> (double((-1, 1, 0, 0), (2, 0, 1, 0)), relation((2, 0, 1, 0), (2, 0, -1, 0)), relation((1, -1, 0, 0), (2, 0, 1, 0)))
(-2, 'touch', 'touch inside')
>>> centre((-6, -4, 5, 0))
((-5, 6), (0, 1))
>>> (side((-1, 1, 0, 0), ((1, 2), (0, 1))), side((2, 0, 1, 0), ((2, 4), (1, 3))), side((0, 2, 0, 1), ((7, 1), (1, 1))))
(-1, 1, 0)
>>> centre((0, 2, 0, 1))
raises InvalidQuestion

>>> from fourtouch.fours import Four
>>> four = Four([(-1, 1, 0, 0), (2, 0, 1, 0), (2, 0, -1, 0), (3, 1, 0, 2)])
>>> (four.curvatures(), four.other(1), four.is_root(), four.exchanged(2).is_root())
((-1, 2, 2, 3), (15, 1, 0, 4), True, False)
>>> four.with_order([4, 1, 2, 3]).circle(2)
(-1, 1, 0, 0)
>>> Four([(1, -1, 0, 0), (-2, 0, -1, 0), (-2, 0, 1, 0), (-3, -1, 0, -2)])
raises InvalidFour

>>> from fourtouch.notation import format_four, parse_four
>>> four = parse_four("four\ncircle -1 1 0 0\ncircle 2 0 1 0\ncircle 2 0 -1 0\ncircle 3 1 0 2")
>>> format_four(four.exchanged(4))
'four\ncircle -1 1 0 0\ncircle 2 0 1 0\ncircle 2 0 -1 0\ncircle 3 1 0 -2'
>>> parse_four("four\ncircle 1 2 3")
raises InvalidNotation
>>> parse_four("four")
raises InvalidFour

>>> from fourtouch.words import core_of, joined, order_of, repeated
>>> joined((1, 2, 3), (3, 2, 4))
(1, 4)
>>> (core_of((1, 2, 3, 1)), repeated((1, 2, 3, 1), 2), order_of((1, 2, 1)))
(((1,), (2, 3)), (1, 2, 3, 2, 3, 1), 2)

>>> from fourtouch.walks import curvatures_along
>>> curvatures_along((-1, 2, 2, 3), (2, 4))
[(-1, 2, 2, 3), (-1, 6, 2, 3), (-1, 6, 2, 11)]

>>> from fourtouch.matrices import curvatures_modulo, matrix_of, word_of
>>> matrix_of((4,))
((1, 0, 0, 0), (0, 1, 0, 0), (0, 0, 1, 0), (2, 2, 2, -1))
>>> word_of(((1, 0, 0, 0), (0, 1, 0, 0), (2, 2, 2, -1), (0, 0, 1, 0)))
>>> curvatures_modulo((-1, 2, 2, 3), (2, 4), 1, 10)
(9, 6, 2, 1)

>>> from fourtouch.fours import Four
>>> from fourtouch.roots import root_curvatures, way_down
>>> four = Four([(-1, 1, 0, 0), (2, 0, 1, 0), (2, 0, -1, 0), (3, 1, 0, 2)]).exchanged(1).exchanged(2)
>>> (four.curvatures(), way_down(four), root_curvatures(four))
((15, 38, 2, 3), (2, 1), (-1, 2, 2, 3))

>>> from fourtouch.addresses import absence, address_of, coordinates
>>> from fourtouch.fours import Four
>>> four = Four([(-1, 1, 0, 0), (2, 0, 1, 0), (2, 0, -1, 0), (3, 1, 0, 2)])
>>> circle = four.exchanged(1).exchanged(2).circle(2)
>>> (circle, coordinates(four, circle), address_of(four, circle))
((38, 4, -3, 12), ((-2, 1), (3, 1), (6, 1), (6, 1)), ((1, 2), 2))
>>> absence(four, (1, 0, 1, 0))
()

>>> from fourtouch.fours import Four
>>> from fourtouch.touching import are_neighbours, circle_by, form_of, pair_of
>>> four = Four([(-1, 1, 0, 0), (2, 0, 1, 0), (2, 0, -1, 0), (3, 1, 0, 2)])
>>> (form_of(four, 1), circle_by(four, 1, (1, -1)), pair_of(four, 1, (3, 1, 0, -2)))
((1, 0, 1), (3, 1, 0, -2), (1, -1))
>>> (circle_by(four, 1, (2, 1)), are_neighbours((2, 1), (1, 1)))
((6, 4, 3, 4), True)

>>> from fourtouch.around import chain, least_around, pairs_to, steps_between
>>> from fourtouch.fours import Four
>>> four = Four([(-1, 1, 0, 0), (2, 0, 1, 0), (2, 0, -1, 0), (3, 1, 0, 2)])
>>> pairs_to(four, 1, 3)
[(2, (0, 1)), (2, (1, 0)), (3, (1, -1)), (3, (1, 1))]
>>> (least_around(four, 1), steps_between((1, 0), (2, 5)))
((2, [(0, 1), (1, 0)]), 3)

>>> from fourtouch.fours import Four
>>> from fourtouch.lists import curvatures_up_to
>>> curvatures_up_to(Four([(-1, 0, 1, 0), (2, 0, -1, 0), (2, 4, -3, 0), (3, 4, -3, 2)]), 14)
[(-1, 1), (2, 2), (3, 2), (6, 4), (11, 4), (14, 4)]

>>> from fourtouch.session import Session
>>> session = Session()
>>> session.run("four f\ncircle -1 0 1 0\ncircle 2 0 -1 0\ncircle 2 4 -3 0\ncircle 3 4 -3 2\nend\nwalk f 1\nask r root f\nask c circles f 6\nanswers")
['ok', 'ok', 'ok', 'ok', 'ok', 'c: circles 9', 'r: root -1 2 2 3']

>>> from fourtouch.fours import Four
>>> from fourtouch.texts import check_place_text, heap_text, parse_word, place_text
>>> four = Four([(-1, 1, 0, 0), (2, 0, 1, 0), (2, 0, -1, 0), (3, 1, 0, 2)])
>>> heap_text(four.exchanged(1), four)
'alike\nway 1\nway'
>>> (place_text(four, (15, 1, 0, 4)), place_text(four, (3, 1, 0, 2)), place_text(four, (1, -1, 0, 0)))
('there 1 1', 'there 4', 'absent')
>>> (check_place_text(four, (15, 1, 0, 4), "there 1 1 2 2"), check_place_text(four, (15, 1, 0, 4), "there 2 1"))
(True, False)
>>> parse_word("word 1 5")
raises InvalidNotation

>>> from fourtouch.fours import Four
>>> from fourtouch.moves import coarser, imaged, moved, turned, way_between
>>> four = Four([(-1, 1, 0, 0), (2, 0, 1, 0), (2, 0, -1, 0), (3, 1, 0, 2)])
>>> moved(four, 1, 0).circles
((-1, 0, -1, 0), (2, 4, 3, 0), (2, 0, 1, 0), (3, 4, 3, 2))
>>> way_between(four, turned(moved(four, 1, 0), 1))
(0, 1, 0, 1)
>>> imaged(four).curvatures()
(1, 0, 0, 1)
>>> coarser(four, 2)
raises InvalidQuestion

>>> from fourtouch.remainders import closed_list, never, witness
>>> closed_list((0, 0, 1, 1), 2)
[(0, 0, 1, 1)]
>>> (never((-1, 2, 2, 3), 4), witness((-1, 2, 2, 3), 8, 6), witness((-1, 2, 2, 3), 8, 0))
([0, 1], (2,), None)

>>> from fourtouch.missing import missing, root_quadruple, standing
>>> root_quadruple((-1, 6, 2, 11))
(-1, 2, 2, 3)
>>> standing((-1, 2, 2, 3), 6)
[(-1, 1), (2, 2), (3, 2), (6, 4)]
>>> missing((-1, 2, 2, 3), 6)
[1, 4, 5]

>>> from fourtouch.fours import Four
>>> from fourtouch.points import gap_circle, gap_of, place_of, touching_point
>>> four = Four([(-1, 1, 0, 0), (2, 0, 1, 0), (2, 0, -1, 0), (3, 1, 0, 2)])
>>> (touching_point(four.circle(1), four.circle(4)), gap_circle(four, 4), gap_circle(four, 1))
(((0, 1), (1, 1)), (0, 0, 0, -2), (8, 0, 0, 2))
>>> (gap_of(four, ((0, 1), (-1, 2))), place_of(four, ((0, 1), (-1, 2))), place_of(four, ((0, 1), (1, 4))))
(4, ('inside', (4,), 4), ('inside', (1,), 1))
'''


def steps_of(block):
    """The lines of a block, each with the text that stands below it."""
    steps = []
    for line in block.strip().split("\n"):
        if line.startswith(">>> "):
            steps.append([line[len(">>> "):], []])
        else:
            steps[-1][1].append(line)
    return steps


def shown(source, names):
    """What doing a line shows."""
    is_expression = isinstance(ast.parse(source).body[0], ast.Expr)
    try:
        if not is_expression:
            exec(source, names)
            return []
        value = eval(source, names)
    except FourtouchError as error:
        return ["raises " + error.__class__.__name__]
    return [] if value is None else [repr(value)]


class Examples(unittest.TestCase):
    def test_each(self):
        done = 0
        for block in EXAMPLES.split("\n\n"):
            names = {}
            for source, expected in steps_of(block):
                self.assertEqual(shown(source, names), expected, source)
                done += bool(expected)
        self.assertEqual(done, 39)


if __name__ == "__main__":
    unittest.main()
