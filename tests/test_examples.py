"""The examples of the interface, as the document writes them."""

import doctest
import unittest

EXAMPLES = r'''
>>> from everygust.corners import box, centre, corners, dimension, top
>>> T = (2, (((-1, 0), 0), ((0, -1), 0), ((1, 2), 4)))
>>> [corners(T), centre(T), box(T), dimension(T), top(T, ((1, 1), (1, 1)))]
[[((0, 1), (0, 1)), ((0, 1), (2, 1)), ((4, 1), (0, 1))], ((4, 3), (2, 3)), (((0, 1), (4, 1)), ((0, 1), (2, 1))), 2, ((4, 1), (2,))]

>>> from everygust.cuts import cut, heart, volume, where
>>> from everygust.faces import edges, face_with
>>> S = (2, (((-1, 0), 0), ((0, -1), 0), ((0, 1), 1), ((1, 0), 1)))
>>> [edges(S), face_with(S, (0, 3)), cut(S), volume(S), heart(S), where(S, ((1, 2), (1, 4)))]
[[(0, 1), (0, 2), (1, 3), (2, 3)], (0, 1, 2, 3), [(0, 1, 3), (0, 2, 3)], (1, 1), ((1, 2), (1, 2)), ((0, 2, 3), ((1, 2), (1, 4), (1, 4)))]

>>> from everygust.hulls import hull, hull_corners, judge_hull
>>> T = (2, (((-1, 0), 0), ((0, -1), 0), ((1, 2), 4)))
>>> POINTS = [((0, 1), (0, 1)), ((4, 1), (0, 1)), ((0, 1), (2, 1)), ((1, 1), (1, 1)), ((4, 1), (0, 1))]
>>> LOTS = ((0, 2), (0, 1), (1, 2))
>>> [hull(2, POINTS), hull_corners(2, POINTS), judge_hull(2, POINTS, T, (LOTS, (0, 2, 1))), judge_hull(2, POINTS, T, (LOTS[:2] + ((1, 3),), (0, 2, 1)))]
[(2, (((-1, 0), 0), ((0, -1), 0), ((1, 2), 4))), [0, 1, 2], None, ('tight', 2, 3)]

>>> from everygust.possible import never, possible
>>> PLANT = ((((1, 1),),), (((1, 1),),), (((1, 1),),), ((0, 1),), (1, (((-1,), 1), ((1,), 1))), (1, (((-2,), 1), ((2,), 1))))
>>> SIGHT = ((((1, 1),),), (1, (((-2,), 1), ((2,), 1))))
>>> ROOM = (1, (((-1,), 2), ((1,), 2)))
>>> LOOK, WISH, LATE = ((0, 1),), ((1, 1),), ((3, 1),)
>>> [possible(PLANT, SIGHT, ROOM, (LOOK,)), possible(PLANT, SIGHT, ROOM, (LOOK, WISH)), possible(PLANT, SIGHT, ROOM, (LOOK, WISH, ((1, 1),))), never(PLANT, SIGHT, ROOM, (LOOK, WISH, LATE))[0]]
[(1, (((-2,), 1), ((2,), 1))), (1, (((-1,), 0), ((1,), 2))), (1, (((-2,), -1), ((2,), 3))), 2]

>>> from everygust.looks import is_seen_kept, judge_look_block, serving, ties_of
>>> PLANT = ((((1, 1),),), (((1, 1),),), (((1, 1),),), ((0, 1),), (1, (((-1,), 1), ((1,), 1))), (1, (((-2,), 1), ((2,), 1))))
>>> SIGHT = ((((1, 1),),), (1, (((-2,), 1), ((2,), 1))))
>>> R = (1, (((-1,), 1), ((1,), 1)))
>>> LESS = (1, (((-10,), 9), ((10,), 9)))
>>> BLOCK = (((0, 1),), ((0, (1, 1), ((-1, 2),), ((-1, 2),)), (1, (1, 1), ((1, 2),), ((1, 2),))), ((0, 1), (0, 1)))
>>> [is_seen_kept(PLANT, SIGHT, R), is_seen_kept(PLANT, SIGHT, LESS), serving(PLANT, SIGHT, R, R, ((0, 1),)), ties_of(PLANT, R), judge_look_block(PLANT, SIGHT, LESS, LESS, BLOCK)]
[True, False, (1, (((-1,), 0), ((1,), 0))), [((0, 1), (1, 1)), ((0, 1), (3, 1)), ((1, 1), (2, 1))], None]

>>> from everygust.blind import blind_room, blind_row
>>> from everygust.sights import spread, told_apart
>>> PLANT = ((((1, 1),),), (((1, 1),),), (((1, 1),),), ((0, 1),), (1, (((-1,), 1), ((1,), 1))), (1, (((-2,), 1), ((2,), 1))))
>>> SIGHT = ((((1, 1),),), (1, (((-2,), 1), ((2,), 1))))
>>> HALF = (1, (((-2,), 1), ((2,), 1)))
>>> WALLS = (1, (((-1,), 2), ((1,), 2)))
>>> GOAL = (1, (((-1,), 1), ((1,), 1)))
>>> [blind_room(PLANT, HALF, WALLS, GOAL, 1), blind_row(PLANT, HALF, WALLS, GOAL, 1), blind_row(PLANT, HALF, WALLS, GOAL, 2)[0], spread(SIGHT, WALLS, ((1, 1),)), told_apart(SIGHT, ((0, 1),), ((1, 1),)), told_apart(SIGHT, ((0, 1),), ((5, 4),))]
[(1, (((-1,), 0), ((1,), 0))), ('row', (((0, 1),),)), 'block', (1, 1), False, True]
'''


class TestExamples(unittest.TestCase):
    def test_as_written(self):
        told = doctest.DocTestParser().get_doctest(EXAMPLES, {}, "the interface", None, 0)
        found = doctest.DocTestRunner(verbose=False).run(told)
        self.assertEqual(found.failed, 0)
        self.assertGreater(found.attempted, 32)
