import itertools
import unittest
from fractions import Fraction

from everygust.errors import Bare, TooGreat, Unbounded
from everygust.hulls import hull
from everygust.images import added, before, image, judge_rest, rest_paper, section, shrunk
from everygust.lean import lean
from everygust.rows import boxed, image_of, is_in, product, shifted
from everygust.shadows import shadow
from everygust.weights import are_alike, is_bare, is_inside
from tests import referees
from tests.helpers import (
    ODD, corners_by_trying, cross, cube, is_within, numbers, polygon, product_of, pt, random_room, seeded, simplex,
    slanted, unchanged)
from tests.plants import some_bounded, some_matrix, some_number, some_standing
from tests.test_weights import BARE, TRIANGLE, WEDGE, rooms_of_all_sorts

SQUARE = cube(2, 0, 1)
LEFT = (2, (((-1, 0), 0), ((0, -1), 0), ((1, 2), 1)))


def never(n):
    return (n, (((0,) * n, -1),))


def some_rooms(told, many, most=3):
    """Pairs of bounded rooms of one n, some of them bare."""
    found = []
    for _ in range(many):
        n = told.randint(0, most)
        pair = [some_bounded(told, n, False), some_bounded(told, n, False)]
        if told.random() < 0.08:
            pair[told.randint(0, 1)] = never(n)
        found.append(tuple(pair))
    return found


def hull_of_sums(room, other):
    ends, others = corners_by_trying(room), corners_by_trying(other)
    sums = sorted({tuple(x + y for x, y in zip(p, q)) for p in ends for q in others})
    return hull(room[0], [pt(*point) for point in sums])


class TestSection(unittest.TestCase):
    def test_by_hand(self):
        self.assertEqual(unchanged(self, section, TRIANGLE, 1, (1, 1)), (1, (((-1,), 0), ((1,), 2))))
        self.assertEqual(section(TRIANGLE, 0, (1, 1)), (1, (((-1,), 0), ((2,), 3))))
        self.assertEqual(section(TRIANGLE, 0, (4, 1)), (1, (((-1,), 0), ((1,), 0))))
        self.assertEqual(section(TRIANGLE, 0, (5, 1)), never(1))
        self.assertEqual(section(cube(1), 0, (1, 3)), (0, ()))
        self.assertEqual(section(cube(1), 0, (4, 3)), (0, (((), -1),)))
        self.assertEqual(section(WEDGE, 0, (7, 2)), (1, (((-1,), 0),)))
        self.assertEqual(section((3, ()), 2, (7, 2)), (2, ()))
        self.assertEqual(section(cross(6), 3, (0, 1)), lean(cross(5)))
        self.assertEqual(section(BARE, 0, (0, 1)), never(1))

    def test_points(self):
        told = seeded(201)
        for room in rooms_of_all_sorts(told, 60):
            n = room[0]
            for place in range(n):
                t = some_number(told)
                found = section(room, place, (t.numerator, t.denominator))
                self.assertEqual(found, lean(found))
                self.assertEqual(found[0], n - 1)
                for _ in range(5):
                    rest = some_standing(told, n - 1)
                    whole = rest[:place] + [t] + rest[place:]
                    self.assertEqual(is_within(found, rest), is_within(room, whole))

    def test_too_great(self):
        self.assertEqual(len(section(slanted(polygon(80)), 2, (3, 1))[1]), 4)
        roof = (3, tuple((a + (0,), b) for a, b in polygon(80)[1]))
        self.assertEqual(section(roof, 2, (1, 9)), lean(polygon(80)))
        higher = (3, tuple((a + (0,), b) for a, b in polygon(81)[1]))
        self.assertRaises(TooGreat, section, higher, 2, (1, 9))


class TestImage(unittest.TestCase):
    def test_by_hand(self):
        self.assertEqual(unchanged(self, image, (pt(1, 1),), pt(0), TRIANGLE), (1, (((-1,), 0), ((1,), 4))))
        self.assertEqual(image((pt(0, 0),), pt(Fraction(1, 2)), TRIANGLE), (1, (((-2,), -1), ((2,), 1))))
        self.assertEqual(image((), (), TRIANGLE), (0, ()))
        self.assertEqual(image((), (), BARE), (0, (((), -1),)))
        self.assertEqual(image((pt(1, 1), pt(1, -1)), pt(0, 0), BARE), never(2))
        self.assertEqual(image(((), ()), pt(3, -1), (0, ())), lean(boxed(pt(3, -1), pt(3, -1))))
        self.assertEqual(image(((), ()), pt(3, -1), (0, (((), -1),))), never(2))
        self.assertEqual(image((pt(2, 0), pt(0, 2)), pt(1, 0), SQUARE), lean(boxed(pt(1, 0), pt(3, 2))))

    def test_by_corners(self):
        told = seeded(202)
        for _ in range(150):
            n, p = told.randint(0, 4), told.randint(0, 4)
            room = some_bounded(told, n, False)
            matrix, shift = some_matrix(told, p, n), pt(*[some_number(told) for _ in range(p)])
            if told.random() < 0.1:
                matrix = tuple(pt(*[0] * n) for _ in range(p))
            found = unchanged(self, image, matrix, shift, room)
            points = [image_of(matrix, pt(*point), shift) for point in corners_by_trying(room)]
            self.assertEqual(found, hull(p, points), (matrix, shift, room))
            self.assertEqual(found, lean(found))

    def test_of_five(self):
        told = seeded(203)
        units = [tuple(int(j == k) for j in range(5)) for k in range(5)]
        turned = [tuple(-k for k in unit) for unit in units]
        for room, ends in ((cube(5), list(itertools.product((-1, 1), repeat=5))), (cross(5), units + turned),
                           (simplex(5), units + [(0,) * 5])):
            matrix = some_matrix(told, 3, 5, 3)
            shift = pt(1, 0, -1)
            points = [image_of(matrix, pt(*point), shift) for point in ends]
            self.assertEqual(image(matrix, shift, room), hull(3, sorted(set(points))))
        lines = tuple(pt(*[int(j == k) for j in range(5)]) for k in range(4))
        self.assertEqual(image(lines, pt(0, 0, 0, 0), cross(5)), lean(cross(4)))

    def test_refused(self):
        self.assertRaises(Unbounded, image, (pt(0, 0),), pt(0), WEDGE)
        self.assertRaises(Unbounded, image, (), (), (1, ()))
        lines = (pt(1, 0), pt(0, 1))
        self.assertEqual(len(image(lines, pt(0, 0), polygon(80))[1]), 80)
        self.assertRaises(TooGreat, image, lines, pt(0, 0), polygon(81))
        flat = lines + (pt(1, 1),)
        self.assertEqual(len(image(flat, pt(0, 0, 0), polygon(78))[1]), 80)
        self.assertRaises(TooGreat, image, flat, pt(0, 0, 0), polygon(79))
        self.assertRaises(Unbounded, image, lines, pt(0, 0), (2, polygon(90)[1][:-1]))

    def test_many_rows_in_time(self):
        told = seeded(204)
        for _ in range(3):
            rows = []
            while len(rows) < 20:
                a = tuple(told.randint(-10 ** 6, 10 ** 6) for _ in range(5))
                rows.append((a, sum(abs(k) for k in a)))
            matrix = some_matrix(told, 3, 5, 9)
            try:
                found = image(matrix, pt(0, 0, 0), (5, tuple(rows)))
                self.assertTrue(len(found[1]) <= 80)
            except (TooGreat, Unbounded):
                pass


class TestBefore(unittest.TestCase):
    def test_by_hand(self):
        half = (pt(Fraction(1, 2)),)
        self.assertEqual(unchanged(self, before, 1, half, pt(1), cube(1)), (1, (((-1,), 4), ((1,), 0))))
        self.assertEqual(before(2, (pt(1, 1),), pt(0), cube(1)), (2, (((-1, -1), 1), ((1, 1), 1))))
        self.assertEqual(before(2, (pt(0, 0),), pt(0), cube(1)), (2, ()))
        self.assertEqual(before(2, (pt(0, 0),), pt(2), cube(1)), never(2))
        self.assertEqual(before(3, (), (), (0, ())), (3, ()))
        self.assertEqual(before(3, (), (), (0, (((), -1),))), never(3))
        self.assertEqual(before(0, ((),), pt(2), cube(1)), never(0))
        self.assertEqual(before(0, ((),), pt(1), cube(1)), (0, ()))

    def test_points_and_images(self):
        told = seeded(205)
        for _ in range(120):
            n, p = told.randint(0, 3), told.randint(0, 3)
            room = some_bounded(told, p, False) if told.random() < 0.6 else random_room(told, p, 3, 3, "any")
            matrix, shift = some_matrix(told, p, n), pt(*[some_number(told, 1) for _ in range(p)])
            found = unchanged(self, before, n, matrix, shift, room)
            self.assertEqual(found, lean(found))
            for _ in range(6):
                x = some_standing(told, n)
                taken = numbers(image_of(matrix, pt(*x), shift))
                self.assertEqual(is_within(found, x), is_within(room, taken))
            inner = some_bounded(told, n)
            self.assertIs(is_inside(image(matrix, shift, inner), room), is_inside(inner, found))

    def test_too_great(self):
        lines = (pt(2, 0), pt(0, 1))
        self.assertEqual(len(before(2, lines, pt(0, 0), polygon(80))[1]), 80)
        self.assertRaises(TooGreat, before, 2, lines, pt(0, 0), polygon(81))


class TestSums(unittest.TestCase):
    def test_by_hand(self):
        self.assertEqual(unchanged(self, added, TRIANGLE, SQUARE), (2, (
            ((-1, 0), 0), ((0, -1), 0), ((0, 1), 3), ((1, 0), 5), ((1, 2), 7))))
        self.assertEqual(unchanged(self, shrunk, TRIANGLE, SQUARE), LEFT)
        self.assertEqual(added(LEFT, SQUARE), (2, (
            ((-1, 0), 0), ((0, -1), 0), ((0, 2), 3), ((1, 0), 2), ((1, 2), 4))))
        self.assertEqual(added((0, ()), (0, ())), (0, ()))
        self.assertEqual(added((0, ()), (0, (((), -1),))), never(0))
        self.assertEqual(added(BARE, SQUARE), never(2))
        self.assertEqual(added(SQUARE, BARE), never(2))

    def test_by_corners(self):
        told = seeded(206)
        for room, other in some_rooms(told, 120):
            found = unchanged(self, added, room, other)
            self.assertEqual(found, hull_of_sums(room, other), (room, other))
            self.assertEqual(found, added(other, room))
            left = unchanged(self, shrunk, room, other)
            self.assertEqual(left, lean(left))
            ends = corners_by_trying(other)
            for _ in range(6):
                x = some_standing(told, room[0])
                stays = all(is_within(room, [v + w for v, w in zip(x, end)]) for end in ends)
                self.assertEqual(is_within(left, x), stays, (room, other, x))

    def test_of_four(self):
        for room, other in ((cube(4), cross(4)), (simplex(4), cube(4)), (simplex(4), simplex(4)), (cube(4), cube(4))):
            self.assertEqual(added(room, other), hull_of_sums(room, other))

    def test_what_holds(self):
        told = seeded(207)
        for room, other in some_rooms(told, 50):
            n = room[0]
            target = some_bounded(told, n, False)
            whole = (n, tuple((a, 4 * b + 6) for a, b in target[1]))
            for third in (target, whole):
                left = shrunk(third, other)
                self.assertIs(is_inside(added(room, other), third), is_inside(room, left))
                if not is_bare(other):
                    self.assertTrue(is_inside(added(left, other), third))
                    if not is_bare(room):
                        both = shrunk(shrunk(third, room), other)
                        self.assertEqual(both, shrunk(third, added(room, other)))
                        self.assertEqual(both, shrunk(shrunk(third, other), room))
                self.assertEqual(added(added(room, other), target), added(room, added(target, other)))
            if not is_bare(other):
                self.assertEqual(shrunk(added(room, other), other), lean(room))
            p = pt(*some_standing(told, n))
            self.assertTrue(are_alike(added(room, boxed(p, p)), shifted(room, p)))
            matrix = some_matrix(told, told.randint(0, 3), n)
            still = pt(*[0] * len(matrix))
            self.assertEqual(image(matrix, still, added(room, other)),
                             added(image(matrix, still, room), image(matrix, still, other)))

    def test_shadows_of_products(self):
        told = seeded(208)
        for _ in range(20):
            n = told.randint(1, 3)
            room, other = some_bounded(told, n), some_bounded(told, 3)
            for shown in ((0,), (0, n), (n, n + 2), tuple(range(n - 1, n + 2))):
                mine = tuple(k for k in shown if k < n)
                its = tuple(k - n for k in shown if k >= n)
                self.assertEqual(shadow(product(room, other), shown),
                                 lean(product(shadow(room, mine), shadow(other, its))))

    def test_unbounded(self):
        for pair in ((WEDGE, SQUARE), (SQUARE, WEDGE), (BARE, WEDGE), (WEDGE, BARE)):
            self.assertRaises(Unbounded, added, *pair)
        self.assertEqual(shrunk(WEDGE, SQUARE), WEDGE[:1] + (tuple(sorted(WEDGE[1])),))
        self.assertEqual(shrunk(SQUARE, WEDGE), never(2))
        self.assertEqual(shrunk(WEDGE, WEDGE), lean(WEDGE))
        self.assertEqual(shrunk(SQUARE, BARE), (2, ()))
        self.assertEqual(shrunk(BARE, BARE), (2, ()))
        self.assertEqual(shrunk(BARE, SQUARE), never(2))
        self.assertEqual(shrunk((2, ()), WEDGE), (2, ()))
        self.assertEqual(shrunk((2, (((0, 0), 3),)), WEDGE), (2, ()))
        self.assertEqual(shrunk((2, (((0, 0), -3),)), WEDGE), never(2))
        self.assertEqual(shrunk((0, ()), (0, (((), -1),))), (0, ()))
        line = (2, (((1, 1), 0), ((-1, -1), 0)))
        self.assertEqual(shrunk((2, (((1, 1), 3),)), line), (2, (((1, 1), 3),)))
        self.assertEqual(shrunk((2, (((1, 0), 3),)), line), never(2))
        told = seeded(209)
        for _ in range(60):
            n = told.randint(1, 3)
            room, other = random_room(told, n, 3, 2, "full"), random_room(told, n, 3, 2, "any")
            left = shrunk(room, other)
            if not is_bare(other):
                # Each row follows from the other room moved by a point that is left, and from no other moved so.
                for _ in range(4):
                    x = some_standing(told, n)
                    self.assertIs(is_within(left, x), is_inside(shifted(other, pt(*x)), room))

    def test_too_great(self):
        one = polygon(40)
        other = (2, tuple(((a[1], -a[0]), b) for a, b in one[1]))
        self.assertEqual(len(added(one, other)[1]), 80)
        self.assertRaises(TooGreat, added, polygon(41), other)
        self.assertEqual(len(shrunk(polygon(80), cube(2, 0, 0))[1]), 80)
        self.assertRaises(TooGreat, shrunk, polygon(81), cube(2, 0, 0))
        self.assertRaises(Unbounded, added, polygon(81), WEDGE)


def rest_referee(room, other, value):
    n, many = other[0], len(other[1])
    good = type(value) is tuple and len(value) == len(room[1])
    for pair in value if good else ():
        good = good and type(pair) is tuple and len(pair) == 2
        good = good and referees.is_list_of(pair[0], n) and referees.is_weights(pair[1], many)
    if not good:
        return ("form",)
    found = [("point", k) for k, (w, _) in enumerate(value) if not is_within(other, numbers(w))]
    sums = [referees.sums(other, weights) for _, weights in value]
    for k, (a, _) in enumerate(room[1]):
        found += [("sum", k, place) for place in range(n) if sums[k][0][place] != a[place]]
    for k, (a, _) in enumerate(room[1]):
        found += [("great", k)] * (sums[k][1] > product_of(a, numbers(value[k][0])))
    return referees.first(found)


class TestRest(unittest.TestCase):
    def test_papers(self):
        told = seeded(210)
        faults = {}
        for room, other in some_rooms(told, 80):
            if is_bare(other):
                self.assertRaises(Bare, rest_paper, room, other)
                continue
            paper = unchanged(self, rest_paper, room, other)
            self.assertIsNone(judge_rest(room, other, paper))
            self.assertIsNone(rest_referee(room, other, paper))
            for _ in range(6):
                value = referees.changed(told, paper, ODD)
                fault = judge_rest(room, other, value)
                self.assertEqual(fault, rest_referee(room, other, value), (room, other, value))
                faults[fault and fault[0]] = True
        self.assertTrue({"form", "point", "sum", "great"} <= set(faults), faults)

    def test_refused(self):
        self.assertRaises(Bare, rest_paper, SQUARE, BARE)
        self.assertRaises(Unbounded, rest_paper, SQUARE, WEDGE)
        self.assertRaises(Unbounded, rest_paper, (2, ()), WEDGE)
        self.assertEqual(rest_paper(WEDGE, SQUARE)[0][0][0], (0, 1))
        self.assertEqual(rest_paper((2, ()), SQUARE), ())
        self.assertIsNone(judge_rest(BARE, SQUARE, rest_paper(BARE, SQUARE)))

    def test_each_fault(self):
        good = ((pt(0, 0), pt(0, 1, 0, 0)), (pt(1, 0), pt(0, 0, 0, 1)), (pt(1, 1), pt(1, 0, 2, 0)))
        self.assertIsNone(judge_rest(TRIANGLE, SQUARE, good))
        for at, pair, fault in [
                (0, (pt(0, 2), pt(0, 1, 0, 0)), ("point", 0)), (2, (pt(1, 2), pt(1, 0, 2, 0)), ("point", 2)),
                (0, (pt(0, 0), pt(0, 2, 0, 0)), ("sum", 0, 0)), (1, (pt(1, 0), pt(0, 0, 1, 1)), ("sum", 1, 1)),
                (0, (pt(1, 0), pt(0, 1, 0, 0)), ("great", 0)), (0, (pt(0, 0), pt(0, -1, 0, 0)), ("form",)),
                (2, (pt(1, 1), pt(2, 1, 2, 0)), ("great", 2)), (0, (pt(0, 0), pt(0, 1, 0)), ("form",)),
                (2, (pt(1,), pt(1, 0, 2, 0)), ("form",)), (0, (pt(0, 0),), ("form",)),
                (0, list(good[0]), ("form",)), (0, (pt(0, 1), pt(0, 1, 0, 0)), None)]:
            value = good[:at] + (pair,) + good[at + 1:]
            self.assertEqual(judge_rest(TRIANGLE, SQUARE, value), fault, value)
            self.assertEqual(rest_referee(TRIANGLE, SQUARE, value), fault, value)
        # Several at once: each sort is looked for in all pairs ahead of the next one.
        wrong_sum, wrong_point = (pt(0, 0), pt(0, 2, 0, 0)), (pt(1, 2), pt(1, 0, 2, 0))
        too_great = (pt(0, 0), pt(0, 0, 0, 1))
        self.assertEqual(judge_rest(TRIANGLE, SQUARE, (wrong_sum, good[1], wrong_point)), ("point", 2))
        self.assertEqual(judge_rest(TRIANGLE, SQUARE, ((pt(1, 0), good[0][1]), good[1], (pt(1, 1), pt(1, 1, 2, 0)))),
                         ("sum", 2, 0))
        self.assertIsNone(judge_rest(TRIANGLE, SQUARE, (good[0], too_great, good[2])))
        for odd in ODD:
            self.assertEqual(judge_rest(TRIANGLE, SQUARE, odd), ("form",))
            self.assertEqual(judge_rest(TRIANGLE, SQUARE, (odd,) + good[1:]), ("form",))
            self.assertEqual(judge_rest(TRIANGLE, SQUARE, ((odd, pt(0, 1, 0, 0)),) + good[1:]), ("form",))
            self.assertEqual(judge_rest(TRIANGLE, SQUARE, ((pt(0, 0), odd),) + good[1:]), ("form",))

    def test_any_rooms_are_judged(self):
        self.assertIsNone(judge_rest((2, ()), BARE, ()))
        self.assertIsNone(judge_rest((2, (((0, -1), 4),)), WEDGE, ((pt(3, 0), pt(0, 1)),)))
        self.assertEqual(judge_rest((2, (((0, -1), 4),)), BARE, ((pt(3, 0), pt(0, 1, 0, 0)),)), ("point", 0))


class TestSmallNumbers(unittest.TestCase):
    def test_all_small_boxes(self):
        for a, b, c, d in itertools.product(range(-1, 2), repeat=4):
            one, other = cube(1, a, b), cube(1, c, d)
            sums = lean(cube(1, a + c, b + d)) if a <= b and c <= d else never(1)
            self.assertEqual(added(one, other), sums)
            if c <= d:
                rest = lean(cube(1, a - c, b - d)) if a <= b else never(1)
            else:
                rest = (1, ())
            self.assertEqual(shrunk(one, other), rest)
            self.assertIs(is_in(one, pt(0)), a <= 0 <= b)
