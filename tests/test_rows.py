import itertools
import unittest
from fractions import Fraction

from everygust import rows
from everygust.fractions import plus
from tests.helpers import cube, fr, is_within, number, numbers, product_of, pt, random_room, seeded, unchanged

GREAT = 10 ** 40 - 3


class TestRow(unittest.TestCase):
    def test_plain_row(self):
        for row, expected in [
                (((-2, 4), 6), ((-1, 2), 3)), (((2, 4), 5), ((2, 4), 5)), (((0, 0), 5), ((0, 0), 0)),
                (((0, 0), 0), ((0, 0), 0)), (((0, 0), -5), ((0, 0), -1)), (((), 3), ((), 0)), (((), -3), ((), -1)),
                (((0, -6), 0), ((0, -1), 0)), (((6, 9), -12), ((2, 3), -4)), (((3,), 0), ((1,), 0)),
                (((GREAT, 2 * GREAT), -3 * GREAT), ((1, 2), -3))]:
            self.assertEqual(unchanged(self, rows.plain_row, row), expected)
            self.assertEqual(rows.plain_row(expected), expected)

    def test_row_of(self):
        self.assertEqual(rows.row_of(((1, 2), (-1, 3)), (5, 6)), ((3, -2), 5))
        self.assertEqual(rows.row_of(((0, 1), (0, 1)), (5, 6)), ((0, 0), 0))
        self.assertEqual(rows.row_of(((0, 1), (0, 1)), (-5, 6)), ((0, 0), -1))
        self.assertEqual(rows.row_of((), (-1, 2)), ((), -1))
        self.assertEqual(rows.row_of(((2, 1), (4, 1)), (6, 1)), ((1, 2), 3))
        self.assertEqual(rows.row_of(((1, GREAT),), (1, 1)), ((1,), GREAT))
        self.assertEqual(rows.row_of(((-1, 2),), (0, 1)), ((-1,), 0))

    def test_always_and_never(self):
        for row, always, never in [
                (((0, 0), 0), True, False), (((0, 0), 9), True, False), (((0, 0), -9), False, True),
                (((), 0), True, False), (((), -1), False, True), (((0, 1), 0), False, False),
                (((1,), -1), False, False)]:
            self.assertIs(rows.is_always(row), always)
            self.assertIs(rows.is_never(row), never)

    def test_reach_and_slack(self):
        point = pt(Fraction(1, 2), 1)
        self.assertEqual(rows.slack(((1, 0), 1), point), (1, 2))
        self.assertEqual(rows.slack(((-2, 4), 6), point), (3, 1))
        self.assertEqual(rows.reach(((-2, 4), 6), point), (3, 1))
        self.assertEqual(rows.reach(((), 6), ()), (0, 1))
        self.assertEqual(rows.slack(((), -6), ()), (-6, 1))
        told = seeded(5)
        for _ in range(60):
            n = told.randint(0, 6)
            row = (tuple(told.randint(-GREAT, GREAT) for _ in range(n)), told.randint(-9, 9))
            point = tuple(fr(told.randint(-GREAT, GREAT), told.randint(1, GREAT)) for _ in range(n))
            expected = product_of(row[0], numbers(point))
            self.assertEqual(rows.reach(row, point), fr(expected))
            self.assertEqual(rows.slack(row, point), fr(row[1] - expected))


class TestRoom(unittest.TestCase):
    ROOM = (2, (((1, 0), 1), ((-2, 4), 6), ((0, -1), 0), ((1, 0), 1)))

    def test_tight_broken_within(self):
        room = self.ROOM
        self.assertEqual(unchanged(self, rows.tight_rows, room, pt(1, 2)), [0, 1, 3])
        self.assertEqual(rows.tight_rows(room, pt(0, 1)), [])
        self.assertEqual(rows.tight_rows(room, pt(1, -5)), [0, 3])
        self.assertIsNone(rows.first_broken(room, pt(1, 2)))
        self.assertEqual(rows.first_broken(room, pt(2, -1)), 0)
        self.assertEqual(rows.first_broken(room, pt(0, 2)), 1)
        self.assertEqual(rows.first_broken(room, pt(1, Fraction(-1, 10 ** 30))), 2)
        self.assertIs(rows.is_in(room, pt(1, 2)), True)
        self.assertIs(rows.is_in(room, pt(1, Fraction(2 * 10 ** 30 + 1, 10 ** 30))), False)

    def test_no_unknowns_and_no_rows(self):
        self.assertIs(rows.is_in((0, ()), ()), True)
        self.assertIs(rows.is_in((0, (((), -1),)), ()), False)
        self.assertEqual(rows.first_broken((0, (((), 0), ((), -1))), ()), 1)
        self.assertEqual(rows.tight_rows((0, (((), 0), ((), 1))), ()), [0])
        self.assertIs(rows.is_in(rows.open_room(6), pt(1, 2, 3, 4, 5, 6)), True)
        self.assertEqual([rows.open_room(k) for k in (0, 6)], [(0, ()), (6, ())])

    def test_joined(self):
        one = (1, (((2,), 4), ((0,), 7)))
        other = (1, (((2,), 4), ((0,), -7)))
        self.assertEqual(rows.joined(one, other), (1, (((1,), 2), ((0,), 0), ((1,), 2), ((0,), -1))))
        self.assertEqual(rows.joined((0, ()), (0, ())), (0, ()))

    def test_product(self):
        one, other = (1, (((2,), 4),)), (2, (((0, 3), 6), ((0, 0), 2)))
        expected = (3, (((1, 0, 0), 2), ((0, 0, 1), 2), ((0, 0, 0), 0)))
        self.assertEqual(unchanged(self, rows.product, one, other), expected)
        self.assertEqual(rows.product((0, (((), -2),)), one), (1, (((0,), -1), ((1,), 2))))
        self.assertEqual(rows.product(cube(3), cube(3))[0], 6)
        self.assertEqual(rows.product((0, ()), (0, ())), (0, ()))

    def test_made_of_one(self):
        room = (2, (((2, 4), 6), ((0, 0), 5), ((0, -3), 1)))
        self.assertEqual(rows.shifted(room, pt(Fraction(1, 2), 1)), (2, (((2, 4), 11)[:1] + (11,), ((0, 0), 0),
                                                                        ((0, -3), -2))))
        self.assertEqual(rows.shifted(room, pt(Fraction(1, 4), 0)), (2, (((4, 8), 13), ((0, 0), 0), ((0, -3), 1))))
        self.assertEqual(rows.scaled(room, (1, 6)), (2, (((2, 4), 1), ((0, 0), 0), ((0, -18), 1))))
        self.assertEqual(rows.scaled(room, (2, 1)), (2, (((1, 2), 6), ((0, 0), 0), ((0, -3), 2))))
        self.assertEqual(rows.mirrored(room), (2, (((-1, -2), 3), ((0, 0), 0), ((0, 3), 1))))
        self.assertEqual(rows.placed(room, (1, 0)), (2, (((2, 1), 3), ((0, 0), 0), ((-3, 0), 1))))
        self.assertEqual(rows.placed((3, (((1, 2, 3), 4),)), (2, 0, 1)), (3, (((3, 1, 2), 4),)))
        self.assertEqual(rows.placed((0, ()), ()), (0, ()))

    def test_never_stays_never(self):
        room = (1, (((0,), -4), ((0,), 4)))
        for told in (rows.shifted(room, pt(3)), rows.scaled(room, (1, 3)), rows.mirrored(room)):
            self.assertEqual(told, (1, (((0,), -1), ((0,), 0))))

    def test_boxed(self):
        self.assertEqual(rows.boxed(pt(0, Fraction(1, 2)), pt(3, Fraction(-2, 3))),
                         (2, (((1, 0), 3), ((-1, 0), 0), ((0, 3), -2), ((0, -2), -1))))
        self.assertEqual(rows.boxed((), ()), (0, ()))

    def test_each_says_the_same_of_points(self):
        told = seeded(3)
        for _ in range(150):
            n = told.randint(0, 3)
            room = random_room(told, n, told.randint(0, 4), 3, told.choice(["any", "full", "point"]))
            other = random_room(told, told.randint(0, 2), 3, 3, "full")
            point = [Fraction(told.randint(-6, 6), told.randint(1, 3)) for _ in range(n)]
            step = [Fraction(told.randint(-6, 6), told.randint(1, 3)) for _ in range(n)]
            behind = [Fraction(told.randint(-6, 6)) for _ in range(other[0])]
            t = Fraction(told.randint(1, 6), told.randint(1, 4))
            order = told.sample(range(n), n)
            less = [x - y for x, y in zip(point, step)]
            checks = [
                (rows.shifted(room, pt(*step)), point, is_within(room, less)),
                (rows.scaled(room, fr(t)), point, is_within(room, [x / t for x in point])),
                (rows.mirrored(room), point, is_within(room, [-x for x in point])),
                (rows.product(room, other), point + behind, is_within(room, point) and is_within(other, behind)),
                (rows.joined(room, cube(n)), point, is_within(room, point) and is_within(cube(n), point)),
                (rows.placed(room, tuple(order)), [point[k] for k in order], is_within(room, point))]
            for made, at, expected in checks:
                self.assertIs(rows.is_in(made, pt(*at)), expected)
                self.assertTrue(all(rows.plain_row(row) == row for row in made[1]))


class TestNext(unittest.TestCase):
    def test_image_of(self):
        matrix = (pt(1, Fraction(1, 2)), pt(0, 0), pt(-1, 3))
        self.assertEqual(rows.image_of(matrix, pt(2, 4), pt(0, Fraction(1, 3), 1)), pt(4, Fraction(1, 3), 11))
        self.assertEqual(rows.image_of((), pt(2, 4), ()), ())
        self.assertEqual(rows.image_of(((), ()), (), pt(1, 2)), pt(1, 2))

    def test_next_of(self):
        plant = ((pt(1, 1), pt(0, 2)), (pt(1), pt(Fraction(1, 2))), ((), ()), pt(10, 20), (1, ()), (0, ()))
        found = unchanged(self, rows.next_of, plant, pt(1, 2), pt(4), ())
        self.assertEqual(found, pt(17, 26))

    def test_next_of_is_the_sum(self):
        told = seeded(8)
        for n, m, k in itertools.product((1, 2, 3), (0, 2), (0, 1)):
            def matrix(c):
                return tuple(pt(*[Fraction(told.randint(-4, 4), told.randint(1, 3)) for _ in range(c)])
                             for _ in range(n))
            by, helm, gust, still = matrix(n), matrix(m), matrix(k), matrix(1)
            still = tuple(line[0] for line in still)
            x, u, w = [pt(*[told.randint(-5, 5) for _ in range(c)]) for c in (n, m, k)]
            found = rows.next_of((by, helm, gust, still, (m, ()), (k, ())), x, u, w)
            for j in range(n):
                expected = product_of(numbers(by[j]), numbers(x)) + product_of(numbers(helm[j]), numbers(u))
                expected += product_of(numbers(gust[j]), numbers(w)) + number(still[j])
                self.assertEqual(number(found[j]), expected)
        self.assertEqual(plus((1, 2), (1, 2)), (1, 1))
