import itertools
import unittest
from fractions import Fraction

from everygust import corners as told_corners
from everygust.corners import box, centre, corners, dimension, is_corner, is_inner, top
from everygust.errors import Bare, TooGreat, Unbounded
from everygust.lean import sides
from everygust.rows import product
from everygust.weights import is_bare
from tests.helpers import (
    corners_by_trying, cross, cube, fr, is_within, numbers, polygon, product_of, pt, random_room, seeded, simplex,
    slanted, unchanged)
from tests.test_weights import BARE, TRIANGLE, WEDGE


def bounded_rooms(told, many, most=4):
    """Bounded rooms of all dimensions, some bare, some flat, some far away from 0."""
    found = [(0, ()), (0, (((), 2),)), TRIANGLE, cube(1), cube(3), cube(4), cross(3), cross(4), simplex(4),
             (2, (((1, 0), 0), ((-1, 0), 0), ((0, 1), 0), ((0, -1), 0))), cube(2, 3, 3), cube(3, 5, 5), BARE,
             (3, cube(3)[1] + (((1, 1, 1), 0), ((-1, -1, -1), 0)))]
    for _ in range(many):
        n = told.randint(1, most)
        room = random_room(told, n, told.randint(0, 5), told.choice([1, 2, 6]),
                           told.choice(["any", "full", "full", "point", "flat"]))
        low = told.choice([-6, -2, 100])
        found.append((n, room[1] + cube(n, low, low + told.randint(0, 9))[1]))
    return found


def many_corners(many):
    """A room of four coordinates with many (many - 3) / 2 corners."""
    points = [[t ** k for k in range(1, 5)] for t in range(many)]
    sums = [sum(point[k] for point in points) for k in range(4)]
    return (4, tuple((tuple(many * p[k] - sums[k] for k in range(4)), 10 ** 6) for p in points))


class TestCorners(unittest.TestCase):
    def test_by_hand(self):
        self.assertEqual(unchanged(self, corners, TRIANGLE), [pt(0, 0), pt(0, 2), pt(4, 0)])
        self.assertEqual(corners((0, ())), [()])
        self.assertEqual(corners(cube(1, -3, 5)), [pt(-3), pt(5)])
        self.assertEqual(corners(cube(2, 7, 7)), [pt(7, 7)])
        self.assertEqual(corners(cube(3)), [pt(*one) for one in itertools.product((-1, 1), repeat=3)])
        self.assertEqual(len(corners(cross(4))), 8)
        half = (1, (((2,), 1), ((-3,), 1)))
        self.assertEqual(corners(half), [pt(Fraction(-1, 3)), pt(Fraction(1, 2))])

    def test_by_trying(self):
        told = seeded(71)
        for room in bounded_rooms(told, 150):
            if is_bare(room):
                self.assertEqual(corners_by_trying(room), [])
                continue
            self.assertEqual(corners(room), [pt(*point) for point in corners_by_trying(room)])

    def test_refused_in_order(self):
        calls = [corners, centre, box, lambda room: top(room, pt(*[1] * room[0]))]
        for call in calls:
            for room in (BARE, (1, (((0,), -1),)), (2, (((0, 0), -1), ((1, 0), 1))), (0, (((), -1),))):
                self.assertRaises(Bare, call, room)
            for room in (WEDGE, (1, ()), (4, many_corners(30)[1][:3])):
                self.assertRaises(Unbounded, call, room)
            self.assertRaises(TooGreat, call, many_corners(27))
            self.assertRaises(Bare, call, (4, many_corners(30)[1] + (((1, 0, 0, 0), -10 ** 9),)))
        self.assertEqual(len(corners(many_corners(26))), 299)
        self.assertEqual(len(corners(product(cube(2), cube(2)))), 16)

    def test_just_too_great(self):
        self.assertEqual(corners(polygon(300)), [pt(t, t * t) for t in range(300)])
        self.assertRaises(TooGreat, corners, polygon(301))
        self.assertEqual(len(corners(slanted(polygon(40)))), 40)

    def test_is_corner(self):
        told = seeded(72)
        for room in bounded_rooms(told, 40) + [WEDGE, (2, ()), BARE]:
            trying = corners_by_trying(room)
            for point in trying:
                self.assertIs(is_corner(room, pt(*point)), True)
            for one, other in itertools.combinations(trying[:6], 2):
                middle = [(x + y) / 2 for x, y in zip(one, other)]
                self.assertIs(is_corner(room, pt(*middle)), False)
                beyond = [2 * x - y for x, y in zip(one, other)]
                self.assertIs(is_corner(room, pt(*beyond)), tuple(beyond) in trying)
        self.assertIs(is_corner(WEDGE, pt(0, 0)), True)
        self.assertIs(is_corner((2, ()), pt(0, 0)), False)
        self.assertIs(is_corner((0, ()), ()), True)
        self.assertIs(is_corner((0, (((), -1),)), ()), False)
        self.assertIs(is_corner(many_corners(40), pt(0, 0, 0, 0)), False)

    def test_dimension(self):
        for room, expected in [
                (BARE, -1), (TRIANGLE, 2), ((0, ()), 0), ((0, (((), -1),)), -1), (WEDGE, 2), ((4, ()), 4),
                (cube(2, 7, 7), 0), ((3, cube(3)[1] + (((1, 1, 1), 0), ((-1, -1, -1), 0))), 2),
                ((2, (((1, 1), 3), ((-1, -1), -3))), 1), (many_corners(40), 4)]:
            self.assertEqual(unchanged(self, dimension, room), expected)

    def test_is_inner(self):
        self.assertIs(is_inner(TRIANGLE, pt(1, 1)), True)
        self.assertIs(is_inner(TRIANGLE, pt(2, 1)), False)
        self.assertIs(is_inner(TRIANGLE, pt(9, 1)), False)
        self.assertIs(is_inner(WEDGE, pt(1, 1)), True)
        self.assertIs(is_inner(WEDGE, pt(0, 1)), False)
        self.assertIs(is_inner((2, ()), pt(0, 1)), True)
        self.assertIs(is_inner(cube(2, 7, 7), pt(7, 7)), True)
        self.assertIs(is_inner(cube(2, 7, 7), pt(7, 8)), False)
        line = (2, (((1, 1), 3), ((-1, -1), -3), ((1, 0), 3)))
        self.assertIs(is_inner(line, pt(0, 3)), True)
        self.assertIs(is_inner(line, pt(3, 0)), False)
        self.assertIs(is_inner(line, pt(0, 0)), False)
        self.assertIs(is_inner((2, TRIANGLE[1] + (((1, 1), 4),)), pt(4, 0)), False)
        self.assertIs(is_inner((0, ()), ()), True)
        self.assertIs(is_inner(many_corners(40), pt(0, 0, 0, 0)), True)
        self.assertRaises(Bare, is_inner, BARE, pt(0, 0))

    def test_centre_box_top(self):
        self.assertEqual(centre(TRIANGLE), pt(Fraction(4, 3), Fraction(2, 3)))
        self.assertEqual(box(TRIANGLE), (pt(0, 4), pt(0, 2)))
        self.assertEqual(top(TRIANGLE, pt(1, 1)), ((4, 1), (2,)))
        self.assertEqual(top(TRIANGLE, pt(1, 2)), ((4, 1), (1, 2)))
        self.assertEqual(top(TRIANGLE, pt(0, 0)), ((0, 1), (0, 1, 2)))
        self.assertEqual([centre((0, ())), box((0, ())), top((0, ()), ())], [(), (), ((0, 1), (0,))])
        told = seeded(73)
        for room in bounded_rooms(told, 60):
            if is_bare(room):
                continue
            trying = corners_by_trying(room)
            mean = pt(*[sum(point[k] for point in trying) / len(trying) for k in range(room[0])])
            self.assertEqual(unchanged(self, centre, room), mean)
            self.assertTrue(is_inner(room, mean))
            self.assertTrue(all(product_of(a, numbers(mean)) < b for a, b in sides(room)))
            self.assertEqual(unchanged(self, box, room), tuple(
                (fr(min(p[k] for p in trying)), fr(max(p[k] for p in trying))) for k in range(room[0])))
            form = [Fraction(told.randint(-3, 3), told.randint(1, 2)) for _ in range(room[0])]
            worths = [product_of(form, point) for point in trying]
            expected = (fr(max(worths)), tuple(k for k, one in enumerate(worths) if one == max(worths)))
            self.assertEqual(unchanged(self, top, room, pt(*form)), expected)
            self.assertTrue(is_within(room, numbers(mean)))

    def test_returned_lists_are_new(self):
        first = corners(TRIANGLE)
        first.append(None)
        self.assertEqual(len(told_corners.corners(TRIANGLE)), 3)
