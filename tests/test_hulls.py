import itertools
import unittest
from fractions import Fraction

from everygust.corners import corners
from everygust.errors import TooGreat
from everygust.hulls import hull, hull_corners, hull_paper, judge_hull, judge_within, within
from everygust.lean import is_lean, lean, sides
from everygust.rows import is_in, plain_row
from everygust.weights import is_bare
from tests import referees
from tests.helpers import (
    ODD, cross, cube, is_within, numbers, polygon, product_of, pt, seeded, slanted, unchanged)
from tests.test_corners import bounded_rooms
from tests.test_faces import flat_dimension, rank

TRIANGLE = (2, (((-1, 0), 0), ((0, -1), 0), ((1, 2), 4)))
POINTS = [pt(0, 0), pt(4, 0), pt(0, 2), pt(1, 1), pt(4, 0)]
LOTS = ((0, 2), (0, 1), (1, 2))


def random_points(told, n):
    """Points with equal ones among them, some in one flat."""
    many = told.randint(1, 9)
    big = told.choice([1, 2, 10])
    found = [[Fraction(told.randint(-big, big), told.choice([1, 1, 2, 3])) for _ in range(n)] for _ in range(many)]
    if n and told.random() < 0.3:
        for point in found:
            point[-1] = sum(point[:-1]) + 3
    if told.random() < 0.4:
        found.append(list(told.choice(found)))
    if told.random() < 0.4 and len(found) > 1:
        one, other = told.sample(found, 2)
        found.append([(x + y) / 2 for x, y in zip(one, other)])
    return [pt(*point) for point in found]


def great_points():
    return [pt(*[t ** k for k in range(1, 5)]) for t in range(24)]


def referee(n, points, room, value):
    """The faults of a hull paper in other words."""
    told_sides, told_corners = sides(room), corners(room)
    d = flat_dimension([numbers(point) for point in told_corners])
    many = len(points)

    def number(k):
        return type(k) is int and 0 <= k < many
    if type(value) is not tuple or len(value) != 2 or type(value[0]) is not tuple or type(value[1]) is not tuple:
        return ("form",)
    lots, spots = value
    for lot in lots:
        if type(lot) is not tuple or len(lot) != d or not all(number(k) for k in lot) or list(lot) != sorted(set(lot)):
            return ("form",)
    if len(lots) != len(told_sides) or not all(number(k) for k in spots):
        return ("form",)
    found = [("outside", k) for k, p in enumerate(points) if not is_within(room, numbers(p))]
    for i, lot in enumerate(lots):
        a, b = told_sides[i]
        found += [("tight", i, k) for k in lot if product_of(a, numbers(points[k])) != b]
    found += [("flat", i) for i, lot in enumerate(lots)
              if rank([[1] + numbers(points[k]) for k in lot]) < len(lot)]
    for j, corner in enumerate(told_corners):
        least = points.index(corner) if corner in points else None
        if j >= len(spots) or spots[j] != least:
            found.append(("corner", j))
    found += [("spare",)] * (len(spots) > len(told_corners))
    return found[0] if found else None


class TestHull(unittest.TestCase):
    def test_by_hand(self):
        self.assertEqual(unchanged(self, hull, 2, POINTS), TRIANGLE)
        self.assertEqual(hull(2, tuple(POINTS)), TRIANGLE)
        self.assertEqual(hull_corners(2, POINTS), [0, 1, 2])
        self.assertEqual(hull_corners(2, tuple(POINTS)), [0, 1, 2])
        self.assertEqual(hull_corners(2, list(reversed(POINTS))), [0, 2, 4])
        for n in range(5):
            self.assertEqual(hull(n, []), (n, (((0,) * n, -1),)))
            self.assertEqual(hull_corners(n, ()), [])
            point = pt(*range(n))
            rows = []
            for k in range(n):
                unit = tuple(int(j == k) for j in range(n))
                rows += [(unit, k), (tuple(-one for one in unit), -k)]
            self.assertEqual(hull(n, [point, point]), (n, tuple(sorted(rows))))
            self.assertEqual(hull_corners(n, [point, point]), [0])
        self.assertEqual(hull(0, [()]), (0, ()))
        line = [pt(0, 1), pt(2, 2), pt(1, Fraction(3, 2))]
        self.assertEqual(hull(2, line), lean((2, (((-1, 2), 2), ((1, -2), -2), ((0, 1), 2), ((0, -1), -1)))))
        self.assertEqual(hull_corners(2, line), [0, 1])

    def test_corners_of_rooms(self):
        told = seeded(101)
        for room in bounded_rooms(told, 80):
            if not is_bare(room):
                points = corners(room)
                if len(points) <= 24:
                    told.shuffle(points)
                    self.assertEqual(hull(room[0], points), lean(room))
                    self.assertEqual(hull_corners(room[0], points), list(range(len(points))))
                    more = points + [points[0], pt(*[sum(numbers([p[k] for p in points])) / len(points)
                                                     for k in range(room[0])])]
                    self.assertEqual(hull(room[0], more), lean(room))

    def test_points_in_and_corners_out(self):
        told = seeded(102)
        for _ in range(150):
            n = told.randint(0, 4)
            points = random_points(told, n)
            room = unchanged(self, hull, n, points)
            self.assertTrue(is_lean(room))
            self.assertTrue(all(is_in(room, point) for point in points))
            chosen = unchanged(self, hull_corners, n, points)
            self.assertEqual(chosen, sorted(points.index(corner) for corner in corners(room)))
            self.assertEqual(hull(n, [points[k] for k in chosen]), room)

    def test_too_great(self):
        points = great_points()
        for call in (hull, hull_paper):
            with self.assertRaises(TooGreat):
                call(4, points)
        self.assertEqual(hull_corners(4, points), list(range(24)))
        # A cyclic hull of v points of four coordinates has v (v - 3) / 2 sides.
        self.assertEqual(len(hull(4, points[:14])[1]), 77)
        with self.assertRaises(TooGreat):
            hull(4, points[:15])
        self.assertIsNone(judge_hull(4, points[:14], hull(4, points[:14]), hull_paper(4, points[:14])))


    def test_just_too_great(self):
        for many, is_great in ((80, False), (81, True)):
            points = [pt(t, t * t) for t in range(many)]
            for call in (hull, hull_paper):
                if is_great:
                    self.assertRaises(TooGreat, call, 2, points)
                else:
                    call(2, points)
            # An equation is told by two rows.
            flat = [pt(t, t * t, t + t * t) for t in range(many - 2)]
            if is_great:
                self.assertRaises(TooGreat, hull, 3, flat)
            else:
                self.assertEqual(hull(3, flat), lean(slanted(polygon(many - 2))))
            self.assertEqual(hull_corners(2, points), list(range(many)))


class TestPapers(unittest.TestCase):
    def test_all_sorts(self):
        told = seeded(103)
        faults = {}
        for _ in range(120):
            n = told.randint(0, 4)
            points = random_points(told, n)
            paper = unchanged(self, hull_paper, n, points)
            room = hull(n, points)
            self.assertIsNone(judge_hull(n, points, room, paper))
            self.assertIsNone(judge_hull(n, tuple(points), room, paper))
            self.assertIsNone(referee(n, points, room, paper))
            for _ in range(6):
                value = referees.changed(told, paper, ODD)
                fault = judge_hull(n, points, room, value)
                self.assertEqual(fault, referee(n, points, room, value), (points, value))
                faults[fault and fault[0]] = True
            fewer = list(points)
            del fewer[told.randrange(len(points))]
            if fewer:
                fault = judge_hull(n, fewer, room, paper)
                self.assertEqual(fault, referee(n, fewer, room, paper))
                other = hull(n, fewer)
                self.assertEqual(judge_hull(n, points, other, hull_paper(n, fewer)),
                                 referee(n, points, other, hull_paper(n, fewer)))
        self.assertTrue({"form", "tight", "corner", "spare", None} <= set(faults), faults)

    def test_each_fault(self):
        square = cube(2, 0, 1)
        room = lean(square)
        points = [pt(0, 0), pt(0, 1), pt(1, 0), pt(1, 1), pt(0, Fraction(1, 2)), pt(1, 1)]
        lots, spots = ((0, 1), (0, 2), (1, 3), (2, 3)), (0, 1, 2, 3)
        beyond = points + [pt(2, 2)]
        three = lean(cube(3, 0, 1))
        corner = [pt(*one) for one in itertools.product((0, 1), repeat=3)] + [pt(0, 0, Fraction(1, 2))]
        good = hull_paper(3, corner)
        flat = ((0, 1, 8),) + good[0][1:]
        for n, told, at, value, fault in [
                (2, points, room, (lots, spots), None), (2, points, room, ((lots[0][:1],) + lots[1:], spots), ("form",)),
                (2, points, room, (((1, 0),) + lots[1:], spots), ("form",)), (2, points, room, (lots[1:], spots), ("form",)),
                (2, points, room, (lots, list(spots)), ("form",)), (2, points, room, (lots, (0, 1, 2, 6)), ("form",)),
                (2, points, room, (lots, (0, 1, 2, True)), ("form",)), (2, points, room, (((0, 0),) + lots[1:], spots), ("form",)),
                (2, beyond, room, (lots, spots), ("outside", 6)), (2, beyond, room, (((0, 2),) + lots[1:], ()), ("outside", 6)),
                (2, points, room, (((0, 2),) + lots[1:], spots), ("tight", 0, 2)),
                (2, points, room, (lots[:3] + ((1, 2),), ()), ("tight", 3, 1)),
                (2, points, room, (lots[:3] + ((3, 5),), spots), ("flat", 3)),
                (2, points, room, (((0, 2),) + lots[1:3] + ((3, 5),), spots), ("tight", 0, 2)),
                (2, points, room, (lots, (0, 1, 2, 5)), ("corner", 3)), (2, points, room, (lots, (0, 1)), ("corner", 2)),
                (2, points, room, (lots, (0, 2, 1, 3)), ("corner", 1)), (2, points, room, (lots, spots + (4,)), ("spare",)),
                (2, points, room, (((0, 4),) + lots[1:], spots), None), (2, points[1:], room, (((0, 3), (1, 2), (0, 2), (1, 2)), spots), ("tight", 1, 2)),
                (3, corner, three, good, None), (3, corner, three, (flat, good[1]), ("flat", 0)),
                (2, points[:3], room, (((0, 1), (0, 2), (0, 1), (0, 2)), (0, 1, 2, 2)), ("tight", 2, 0))]:
            self.assertEqual(judge_hull(n, told, at, value), fault, value)
            self.assertEqual(referee(n, told, at, value), fault, value)
        for odd in ODD:
            self.assertEqual(judge_hull(2, points, room, odd), ("form",))
            self.assertEqual(judge_hull(2, points, room, (odd, spots)), ("form",))
            self.assertEqual(judge_hull(2, points, room, (lots, odd))[0], "form" if not (
                type(odd) is tuple and all(type(k) is int and 0 <= k < 6 for k in odd)) else "corner", odd)

    def test_the_example(self):
        self.assertIsNone(judge_hull(2, POINTS, TRIANGLE, (LOTS, (0, 2, 1))))
        self.assertEqual(judge_hull(2, POINTS, TRIANGLE, (LOTS[:2] + ((1, 3),), (0, 2, 1))), ("tight", 2, 3))
        self.assertEqual(judge_hull(0, [()], (0, ()), ((), (0,))), None)
        self.assertEqual(judge_hull(0, [(), ()], (0, ()), ((), (1,))), ("corner", 0))


class TestWithin(unittest.TestCase):
    def look(self, n, points, point, value):
        if value[0] == "mean":
            chosen = [k for k, _ in value[1]]
            self.assertEqual(chosen, sorted(set(chosen)))
            shares = numbers([w for _, w in value[1]])
            self.assertTrue(all(w > 0 for w in shares) and sum(shares) == 1)
            for j in range(n):
                self.assertEqual(sum(w * numbers(points[k])[j] for w, k in zip(shares, chosen)), numbers(point)[j])
        else:
            a, b = value[1]
            self.assertEqual(plain_row((a, b)), (a, b))
            self.assertTrue(all(product_of(a, numbers(told)) <= b for told in points))
            self.assertGreater(product_of(a, numbers(point)), b)
        self.assertIsNone(judge_within(n, points, point, value))

    def test_all_sorts(self):
        told = seeded(104)
        words = {}
        for _ in range(200):
            n = told.randint(0, 4)
            points = random_points(told, n)
            room = hull(n, points)
            tries = [points[0], pt(*[Fraction(told.randint(-2, 2), told.randint(1, 3)) for _ in range(n)]),
                     pt(*[sum(numbers([p[k] for p in points])) / len(points) for k in range(n)])]
            for point in tries:
                value = unchanged(self, within, n, points, point)
                self.look(n, points, point, value)
                self.assertEqual(value[0] == "mean", is_in(room, point))
                words[value[0]] = True
        self.assertEqual(len(words), 2)
        self.assertEqual(within(2, POINTS, pt(9, 9))[0], "row")
        self.assertEqual(within(2, tuple(POINTS), pt(2, 1))[0], "mean")

    def test_no_points(self):
        for n in range(4):
            for told in (0, -7, 7):
                point = pt(*[told] * n)
                self.look(n, [], point, within(n, [], point))

    def test_judge(self):
        middle, beside = pt(2, 1), pt(3, 1)
        half = (1, 2)
        for point, value, fault in [
                (middle, ("mean", ((1, half), (2, half))), None), (middle, ("mean", ((2, half), (4, half))), None),
                (middle, ("mean", ((2, half), (1, half))), ("form",)), (middle, ("mean", ((1, half), (5, half))), ("form",)),
                (middle, ("mean", ((1, half), (2, (0, 1)))), ("form",)), (middle, ("mean", ()), ("sum",)),
                (middle, ("mean", ((1, half),)), ("sum",)), (middle, ("mean", ((1, (1, 1)),)), ("point",)),
                (beside, ("row", ((1, 2), 4)), None), (beside, ("row", ((2, 4), 8)), ("form",)),
                (beside, ("row", ((1, 2), 3)), ("point", 1)), (middle, ("row", ((1, 2), 4)), ("kept",)),
                (beside, ("row", ((1, 2, 3), 4)), ("form",)), (beside, ("row", ((0, 0), 0)), ("kept",)),
                (beside, ("row", ((0, 0), 1)), ("form",)), (beside, ("row", ((0, 0), -1)), ("point", 0)),
                (beside, ("row", ((-1, 0), -1)), ("point", 0)), (beside, ("mean", ((1, half), (2, half))), ("point",)),
                (beside, ("row", [(1, 2), 4]), ("form",)), (beside, ("rows", ((1, 2), 4)), ("form",))]:
            self.assertEqual(judge_within(2, POINTS, point, value), fault, value)
        for odd in ODD:
            self.assertEqual(judge_within(2, POINTS, middle, odd), ("form",))
            self.assertEqual(judge_within(2, POINTS, middle, ("row", odd)), ("form",))
            expected = ("sum",) if odd == () and type(odd) is tuple else ("form",)
            self.assertEqual(judge_within(2, POINTS, middle, ("mean", odd)), expected)
        self.assertEqual(judge_within(1, [], pt(0), ("row", ((0,), -1))), None)
        self.assertEqual(len(hull(4, corners(cross(4)))[1]), 16)
