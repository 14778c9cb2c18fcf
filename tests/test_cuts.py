import itertools
import unittest
from fractions import Fraction
from math import factorial

from everygust.cuts import cut, heart, judge_mean, mean_of, volume, where
from everygust.errors import Bare, TooGreat, Unbounded
from everygust.fractions import plus, times
from everygust.rows import product, shifted
from everygust.weights import is_bare
from tests.helpers import ODD, corners_by_trying, cross, cube, fr, number, numbers, pt, seeded, simplex, unchanged
from tests.test_corners import bounded_rooms, many_corners
from tests.test_faces import faces_by_trying, flat_dimension
from tests.test_weights import BARE, TRIANGLE, WEDGE


def cut_by_trying(room):
    """The cut by the words of the document, from all faces found by trying."""
    levels = faces_by_trying(room)
    dimension = {face: d for d, level in enumerate(levels) for face in level}

    def told(face):
        if len(face) == 1:
            return [face]
        found = []
        for facet in levels[dimension[face] - 1]:
            if set(facet) < set(face) and face[0] not in facet:
                found += [(face[0],) + one for one in told(facet)]
        return found
    return sorted(told(levels[-1][0]))


def determinant(rows):
    if not rows:
        return Fraction(1)
    return sum((-1) ** k * rows[0][k] * determinant([row[:k] + row[k + 1:] for row in rows[1:]])
               for k in range(len(rows)))


def volume_by_trying(room):
    trying = corners_by_trying(room)
    if flat_dimension(trying) < room[0]:
        return Fraction(0)
    found = Fraction(0)
    for told in cut_by_trying(room):
        rows = [[x - y for x, y in zip(trying[k], trying[told[0]])] for k in told[1:]]
        found += abs(determinant(rows))
    return found / factorial(room[0])


class TestCut(unittest.TestCase):
    def test_by_hand(self):
        self.assertEqual(unchanged(self, cut, TRIANGLE), [(0, 1, 2)])
        self.assertEqual(cut(cube(2, 0, 1)), [(0, 1, 3), (0, 2, 3)])
        self.assertEqual(cut((0, ())), [(0,)])
        self.assertEqual(cut(cube(1)), [(0, 1)])
        self.assertEqual(cut(cube(3, 4, 4)), [(0,)])
        self.assertEqual(len(cut(cube(3))), 6)
        self.assertEqual(len(cut(cube(4))), 24)
        self.assertEqual(len(cut(cross(4))), 8)

    def test_by_trying(self):
        told = seeded(91)
        for room in bounded_rooms(told, 50):
            if not is_bare(room):
                self.assertEqual(unchanged(self, cut, room), cut_by_trying(room))

    def test_refused_in_order(self):
        calls = [cut, volume, heart, lambda room: where(room, pt(*[0] * room[0])),
                 lambda room: mean_of(room, pt(*[0] * room[0])), lambda room: judge_mean(room, pt(*[0] * room[0]), 0)]
        for call in calls:
            self.assertRaises(Bare, call, BARE)
            self.assertRaises(Unbounded, call, WEDGE)
            self.assertRaises(TooGreat, call, many_corners(27))


class TestVolume(unittest.TestCase):
    def test_by_hand(self):
        for room, expected in [
                (TRIANGLE, 4), ((0, ()), 1), (cube(1, -3, 5), 8), (cube(4, 0, 3), 81), (cube(3, 4, 4), 0),
                (simplex(4), Fraction(1, 24)), (cross(3), Fraction(4, 3)), (cross(4), Fraction(2, 3))]:
            self.assertEqual(unchanged(self, volume, room), fr(expected))

    def test_by_trying(self):
        told = seeded(92)
        for room in bounded_rooms(told, 40):
            if not is_bare(room):
                self.assertEqual(volume(room), fr(volume_by_trying(room)))

    def test_parts_add_up(self):
        told = seeded(93)
        for room in bounded_rooms(told, 60):
            if is_bare(room) or room[0] == 0:
                continue
            n = room[0]
            a = tuple(told.randint(-3, 3) for _ in range(n))
            if not any(a):
                continue
            b = told.randint(-4, 4)
            sums = Fraction(0)
            for part in ((n, room[1] + ((a, b),)), (n, room[1] + ((tuple(-k for k in a), -b),))):
                sums += 0 if is_bare(part) else number(volume(part))
            self.assertEqual(sums, number(volume(room)))
            step = pt(*[Fraction(told.randint(-5, 5), 3) for _ in range(n)])
            self.assertEqual(volume(shifted(room, step)), volume(room))

    def test_of_products(self):
        for one, other in itertools.product([TRIANGLE, cube(2), simplex(2), cube(2, 1, 1)], [cube(1, 0, 3), simplex(2)]):
            self.assertEqual(volume(product(one, other)), times(volume(one), volume(other)))


class TestHeart(unittest.TestCase):
    def test_by_hand(self):
        self.assertEqual(unchanged(self, heart, TRIANGLE), pt(Fraction(4, 3), Fraction(2, 3)))
        self.assertEqual(heart((0, ())), ())
        self.assertEqual(heart(cube(3, 4, 4)), pt(4, 4, 4))
        self.assertEqual(heart(cube(4, -1, 2)), pt(*[Fraction(1, 2)] * 4))
        roof = (2, (((-1, 0), 0), ((0, -1), 0), ((1, 0), 2), ((1, 1), 3)))
        # A trapezium of the heights 3 and 1 over the ends of 0 to 2.
        self.assertEqual(heart(roof), pt(Fraction(5, 6), Fraction(13, 12)))

    def test_flat_rooms(self):
        # The roof stands in a slanted flat; shares are the same in whatever coordinates they are reckoned.
        roof = (3, (((-1, 0, 0), 0), ((0, -1, 0), 0), ((1, 0, 0), 2), ((1, 1, 0), 3), ((2, -3, 1), 5), ((-2, 3, -1), -5)))
        x, y = Fraction(5, 6), Fraction(13, 12)
        self.assertEqual(heart(roof), pt(x, y, 5 - 2 * x + 3 * y))
        self.assertEqual(volume(roof), (0, 1))

    def test_weighed_by_parts(self):
        told = seeded(94)
        for room in bounded_rooms(told, 40):
            if is_bare(room) or volume(room) == (0, 1):
                continue
            n = room[0]
            a = tuple(told.randint(-2, 2) for _ in range(n))
            sums = [(0, 1)] * n
            for part in ((n, room[1] + ((a, 1),)), (n, room[1] + ((tuple(-k for k in a), -1),))):
                if any(a) and not is_bare(part):
                    sums = [plus(one, times(volume(part), k)) for one, k in zip(sums, heart(part))]
            if any(a):
                self.assertEqual(tuple(sums), tuple(times(volume(room), k) for k in heart(room)))


class TestMeans(unittest.TestCase):
    def test_where(self):
        square = cube(2, 0, 1)
        self.assertEqual(unchanged(self, where, square, pt(Fraction(1, 2), Fraction(1, 4))),
                         ((0, 2, 3), pt(Fraction(1, 2), Fraction(1, 4), Fraction(1, 4))))
        self.assertEqual(where(square, pt(1, 1)), ((0, 1, 3), pt(0, 0, 1)))
        self.assertIsNone(where(square, pt(1, 2)))
        self.assertEqual(where((0, ()), ()), ((0,), pt(1)))
        self.assertEqual(mean_of(square, pt(1, 1)), ((3, (1, 1)),))
        self.assertIsNone(mean_of(square, pt(-1, 1)))

    def test_points_of_rooms(self):
        told = seeded(95)
        for room in bounded_rooms(told, 40):
            if is_bare(room):
                continue
            trying = corners_by_trying(room)
            for _ in range(4):
                shares = [told.choice([0, 1, told.randint(0, 5)]) for _ in trying]
                shares[0] += not any(shares)
                point = [sum(s * p[k] for s, p in zip(shares, trying)) / Fraction(sum(shares)) for k in range(room[0])]
                simplex_told, chosen = unchanged(self, where, room, pt(*point))
                self.check_first(room, trying, point, simplex_told)
                values = numbers(chosen)
                self.assertTrue(all(k >= 0 for k in values) and sum(values) == 1)
                made = [sum(w * trying[j][k] for w, j in zip(values, simplex_told)) for k in range(room[0])]
                self.assertEqual(made, point)
                pairs = mean_of(room, pt(*point))
                self.assertEqual(pairs, tuple((j, w) for j, w in zip(simplex_told, chosen) if w[0]))
                self.assertIsNone(judge_mean(room, pt(*point), pairs))
                outside = [x + 1000 for x in point]
                self.assertEqual(where(room, pt(*outside)) is None, bool(point))

    def check_first(self, room, trying, point, simplex_told):
        from tests.helpers import solved
        for told in cut(room):
            if told == simplex_told:
                return
            columns = [trying[k] for k in told]
            rows = [[one[k] for one in columns] for k in range(room[0])] + [[1] * len(told)]
            answer = solved(rows, point + [1])
            self.assertTrue(answer is None or any(k < 0 for k in answer))

    def test_judge_mean(self):
        square, middle = cube(2, 0, 1), pt(Fraction(1, 2), Fraction(1, 2))
        half, quarter = (1, 2), (1, 4)
        for value, fault in [
                (((0, half), (3, half)), None), (((1, half), (2, half)), None),
                (((0, quarter), (1, quarter), (2, quarter), (3, quarter)), None), ((), ("sum",)),
                (((0, half), (3, quarter)), ("sum",)), (((0, (1, 1)),), ("point",)), (((0, half), (1, half)), ("point",)),
                (((3, half), (0, half)), ("form",)), (((0, half), (0, half)), ("form",)), (((0, half), (4, half)), ("form",)),
                (((0, half), (-1, half)), ("form",)), (((0, half), (3, (0, 1))), ("form",)),
                (((0, half), (3, (2, 4))), ("form",)), (((0, half), (3, (-1, 2))), ("form",)),
                (((False, half), (3, half)), ("form",)), ([(0, half), (3, half)], ("form",)),
                (((0, half), [3, half]), ("form",)), (((0, half, 0), (3, half)), ("form",)),
                (((0, (3, 2)), (1, half)), ("sum",))]:
            self.assertEqual(judge_mean(square, middle, value), fault, value)
        for odd in ODD:
            expected = ("sum",) if odd == () and type(odd) is tuple else ("form",)
            self.assertEqual(judge_mean(square, middle, odd), expected, odd)
        self.assertEqual(judge_mean(square, pt(5, 5), ((3, (1, 1)),)), ("point",))
        self.assertIsNone(judge_mean((0, ()), (), ((0, (1, 1)),)))
