import itertools
import math
import unittest
from fractions import Fraction

from everygust.corners import corners
from everygust.errors import TooGreat, Unbounded
from everygust.grids import around, grid_count, grid_from, grid_points
from everygust.lean import lean
from everygust.weights import is_inside
from tests.helpers import corners_by_trying, cross, cube, is_within, numbers, product_of, pt, seeded, simplex, unchanged
from tests.plants import from_numbers, some_bounded, some_standing
from tests.test_levels import stretch
from tests.test_lots import rough
from tests.test_steps import never

CORNERED = (2, (((-1, 0), 0), ((0, -1), 0), ((1, 2), 1)))
THIN = (2, (((10, -1), 1), ((-10, 1), 1), ((1, 0), 3), ((-1, 0), 3)))


def around_due(room, s):
    """The room of all rows, with each b the least integer that lets all corners by."""
    n, ends = room[0], corners_by_trying(room)
    if not ends:
        return never(n)
    rows = []
    for a in itertools.product(range(-s, s + 1), repeat=n):
        if any(a):
            rows.append((a, math.ceil(max(product_of(a, x) for x in ends))))
    return lean((n, tuple(rows)))


def points_due(room, q):
    """The ascending points of the grid, by trying all of the box."""
    ends = corners_by_trying(room)
    if not ends:
        return []
    ranges = [range(math.ceil(q * min(x[k] for x in ends)), math.floor(q * max(x[k] for x in ends)) + 1)
        for k in range(room[0])]
    every = [[Fraction(m, q) for m in t] for t in itertools.product(*ranges)]
    return [from_numbers(x) for x in every if is_within(room, x)]


def rooms(told, many):
    found = [CORNERED, THIN, cube(1, 1, 1), never(2), rough(1, 0), (0, ()), (0, (((), -1),)), simplex(3), cross(3),
        (2, THIN[1] + (((10, -1), 0), ((-10, 1), 0))),
             (1, (((3,), 1), ((-3,), -1))), (1, (((3,), 2), ((-3,), -1)))]
    for _ in range(many):
        n = told.randint(1, 3)
        room = some_bounded(told, n, False)
        shift = [Fraction(told.randint(-3, 3), told.randint(1, 3)) for _ in range(n)]
        rows = []
        for a, b in room[1]:
            bound = b + product_of(a, shift)
            rows.append((tuple(k * bound.denominator for k in a), bound.numerator))
        found.append((n, tuple(rows)))
    return found


class TestAround(unittest.TestCase):
    def test_example(self):
        self.assertEqual([tuple(numbers(x)) for x in corners(unchanged(self, around, CORNERED, 1))],
            [(0, 0), (0, 1), (1, 0)])
        self.assertEqual(around(CORNERED, 2), lean(CORNERED))
        self.assertEqual(around(CORNERED, 3), lean(CORNERED))

    def test_double_rows(self):
        # A row of 2 a binds more than that of a: 2 x <= 1 lets fewer points by than x <= 1.
        half = (1, (((2,), 1), ((-1,), 0)))
        self.assertEqual(around(half, 1), stretch(0, 1))
        self.assertEqual(around(half, 2), stretch(0, Fraction(1, 2)))
        self.assertEqual(around((1, (((3,), 1), ((-1,), 0))), 2), stretch(0, Fraction(1, 2)))
        self.assertEqual(around((1, (((3,), 1), ((-1,), 0))), 3), stretch(0, Fraction(1, 3)))
        self.assertEqual(around((1, (((3,), 2), ((-1,), 0))), 2), stretch(0, 1))
        self.assertEqual(around(never(3), 2), never(3))
        self.assertEqual(around(rough(1, 0), 1), never(1))
        self.assertEqual(around(cube(2, 1, 1), 1), lean(cube(2, 1, 1)))

    def test_by_trying(self):
        told = seeded(531)
        for room in rooms(told, 30):
            last = None
            for s in (1, 2) if room[0] == 3 else (1, 2, 3):
                found = unchanged(self, around, room, s)
                self.assertEqual(found, around_due(room, s))
                self.assertTrue(is_inside(room, found))
                self.assertTrue(last is None or is_inside(found, last))
                last = found
                # No room with such whole numbers that has all points has fewer.
                n = room[0]
                if corners_by_trying(room) and n:
                    some = [tuple(told.randint(-s, s) for _ in range(n)) for _ in range(5)]
                    other = (n, tuple((a, math.ceil(max(product_of(a, x) for x in corners_by_trying(room))))
                        for a in some))
                    self.assertTrue(is_inside(found, other))

    def test_too_great(self):
        # A fine ball of rows: with whole numbers to 2 each of 124 rows, in 62 directions and twice, can be told once.
        told = seeded(532)
        most = 0
        for size in (1, 7, 50, 997, 5003):
            rows = []
            for a in itertools.product(range(-2, 3), repeat=3):
                if any(a):
                    rows.append((a, math.isqrt(sum(k * k for k in a) * size * size) + told.randint(0, 1)))
            room = (3, tuple(rows))
            due = around_due_of(room, 2)
            most = max(most, len(due[1]))
            if len(due[1]) > 80:
                self.assertRaises(TooGreat, around, room, 2)
            else:
                self.assertEqual(around(room, 2), due)
        self.assertGreater(most, 80)


def around_due_of(room, s):
    """As around_due, with corners of the package's, as there are too many rows to try them all."""
    ends = [numbers(x) for x in corners(room)]
    rows = []
    for a in itertools.product(range(-s, s + 1), repeat=room[0]):
        if any(a):
            rows.append((a, math.ceil(max(product_of(a, x) for x in ends))))
    return lean((room[0], tuple(rows)))


class TestGrids(unittest.TestCase):
    def test_by_hand(self):
        half = Fraction(1, 2)
        self.assertEqual(unchanged(self, grid_points, CORNERED, 2), [pt(0, 0), pt(0, half), pt(half, 0), pt(1, 0)])
        self.assertEqual(unchanged(self, grid_count, CORNERED, 2), 4)
        for point, due in [(pt(0, half), pt(0, half)), (pt(0, Fraction(51, 100)), pt(half, 0)), (pt(-9, 99), pt(0, 0)),
                (pt(half, Fraction(1, 4)), pt(1, 0)),
                           (pt(1, 0), pt(1, 0)), (pt(1, Fraction(1, 99)), None), (pt(2, -5), None),
                           (pt(1, -5), pt(1, 0))]:
            self.assertEqual(unchanged(self, grid_from, CORNERED, 2, point), due)
        self.assertEqual(grid_points(never(2), 3), [])
        self.assertIsNone(grid_from(never(2), 3, pt(0, 0)))
        self.assertEqual([grid_points((0, ()), 3), grid_count((0, ()), 3), grid_from((0, ()), 3, ())], [[()], 1, ()])
        self.assertEqual(grid_points((1, (((3,), 1), ((-3,), -1))), 3), [pt(Fraction(1, 3))])
        self.assertEqual(grid_points((1, (((3,), 1), ((-3,), -1))), 2), [])
        self.assertEqual(grid_points((1, (((3,), 2), ((-3,), -1))), 2), [pt(half)])

    def test_by_trying(self):
        told = seeded(533)
        for room in rooms(told, 40):
            for q in (1, 2, told.randint(3, 5)):
                due = points_due(room, q)
                self.assertEqual(unchanged(self, grid_points, room, q), due)
                self.assertEqual(unchanged(self, grid_count, room, q), len(due))
                for x in [some_standing(told, room[0], 2)] + [numbers(x) for x in due[-1:] + due[:1]]:
                    x = [k + told.choice([0, Fraction(1, 99), -Fraction(1, 99)]) for k in x]
                    first = [y for y in due if numbers(y) >= x]
                    self.assertEqual(unchanged(self, grid_from, room, q, from_numbers(x)), first[0] if first else None)

    def test_errors(self):
        for room, q, error in [(rough(0, 19999), 1, None), (rough(0, 20000), 1, TooGreat), (cube(2, 0, 140), 1, None),
                (cube(2, 0, 141), 1, TooGreat),
                               ((1, ()), 1, Unbounded), ((2, (((1, 0), 10 ** 6), ((-1, 0), 0))), 1, Unbounded),
                               ((1, (((2,), 39999), ((-2,), 1))), 1, None),
                               ((1, (((60,), 19999), ((-60,), 0))), 60, None),
                               ((1, (((60,), 20000), ((-60,), 0))), 60, TooGreat)]:
            for call, args in ((grid_points, ()), (grid_count, ()), (grid_from, (pt(*[0] * room[0]),))):
                if error:
                    self.assertRaises(error, call, room, q, *args)
                else:
                    call(room, q, *args)
        self.assertRaises(Unbounded, around, (2, (((1, 0), 1),)), 1)
        self.assertEqual(grid_count(rough(0, 19999), 1), 20000)
        # The box counts, not the room; where no integer lies between its ends it has none, however wide it is else.
        slant = (2, (((1, -1), 0), ((-1, 1), 0), ((1, 0), 150), ((-1, 0), 0)))
        self.assertRaises(TooGreat, grid_count, slant, 1)
        flat = (3, (((1, 0, 0), 10 ** 6), ((-1, 0, 0), 0), ((0, 1, 0), 10 ** 6), ((0, -1, 0), 0), ((0, 0, 3), 2),
            ((0, 0, -3), -1)))
        self.assertEqual([grid_count(flat, 1), grid_points(flat, 1), grid_from(flat, 1, pt(0, 0, 0))], [0, [], None])
