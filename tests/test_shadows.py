import itertools
import unittest
from fractions import Fraction

from everygust.corners import corners
from everygust.errors import TooGreat, Unbounded
from everygust.lean import lean
from everygust.rows import product
from everygust.shadows import above, judge_above, judge_shadow, shadow, shadow_paper
from everygust.weights import is_bare, is_bounded
from tests import referees
from tests.helpers import (
    ODD, corners_by_trying, cross, cube, is_within, numbers, polygon, product_of, pt, random_room, seeded, simplex,
    slanted, unchanged)
from tests.test_corners import bounded_rooms, many_corners
from tests.test_weights import BARE, TRIANGLE, WEDGE, rooms_of_all_sorts


def shadow_by_elimination(room, shown):
    """The lean shadow, one place after another dropped, by sums of two rows."""
    n, rows = room
    rows = list(rows)
    for place in range(n):
        if place in shown:
            continue
        up = [row for row in rows if row[0][place] > 0]
        down = [row for row in rows if row[0][place] < 0]
        rows = [row for row in rows if row[0][place] == 0]
        for (a, b), (c, d) in itertools.product(up, down):
            p, q = -c[place], a[place]
            rows.append((tuple(p * x + q * y for x, y in zip(a, c)), p * b + q * d))
        rows = list(lean((n, tuple(rows)))[1])
    return lean((len(shown), tuple((tuple(a[k] for k in shown), b) for a, b in rows)))


def all_shown(n, most=4):
    return [shown for many in range(min(n, most) + 1) for shown in itertools.combinations(range(n), many)]


def referee(room, shown, value):
    """The faults of a shadow paper, in other words."""
    n, many, s = room[0], len(room[1]), len(shown)
    told = referees.told
    if told(value, "bare", 2) and referees.is_weights(value[1], many):
        form, bound = referees.sums(room, value[1])
        found = [("sum", 0, k) for k in range(n) if form[k]]
        return referees.first(found + [("bound", 0)] * (bound >= 0))
    if not told(value, "shadow", 4) or any(type(part) is not tuple for part in value[1:]):
        return ("form",)
    _, rows, weights, pairs = value
    good = len(rows) <= 80 and len(pairs) >= 1 and len(weights) == len(rows)
    good = good and all(referees.is_weights(w, many) for w in weights)
    for row in rows:
        good = good and type(row) is tuple and len(row) == 2 and type(row[0]) is tuple and len(row[0]) == s
        good = good and type(row[1]) is int and all(type(k) is int for k in row[0])
    for pair in pairs:
        good = good and type(pair) is tuple and len(pair) == 2
        good = good and referees.is_list_of(pair[0], s) and referees.is_list_of(pair[1], n)
    if not good:
        return ("form",)
    found = []
    sums = [referees.sums(room, w) for w in weights]
    for k, (a, _) in enumerate(rows):
        for place in range(n):
            due = a[shown.index(place)] if place in shown else 0
            found += [("sum", k, place)] * (sums[k][0][place] != due)
    found += [("bound", k) for k, (_, b) in enumerate(rows) if sums[k][1] > b]
    ys = [numbers(y) for y, _ in pairs]
    found += [("order", k) for k in range(1, len(ys)) if not ys[k - 1] < ys[k]]
    found += [("point", k) for k, (_, x) in enumerate(pairs) if not is_within(room, numbers(x))]
    found += [("above", k) for k, (y, x) in enumerate(pairs) if tuple(x[j] for j in shown) != y]
    if found:
        return found[0]
    if not is_bounded((s, rows)):
        return ("way",)
    apart = {tuple(y) for y in ys} ^ set(corners_by_trying((s, rows)))
    return ("corner", pt(*min(apart))) if apart else None


def great_shadow():
    """A room whose shadow at the first four places has more than 300 corners: a product of two polygons of 20."""
    steps = [(1, 0), (4, 1), (3, 1), (2, 1), (3, 2), (1, 1)]
    around = steps + [(b, a) for a, b in reversed(steps[1:-1])]
    edges = []
    for a, b in around:
        edges.append((a, b))
    for a, b in around:
        edges.append((-b, a))
    edges = edges + [(-a, -b) for a, b in edges]
    x, y, found = 0, 0, []
    for a, b in edges:
        # The room lies on the left of each edge of a closed way that always turns left.
        found.append(((b, -a), b * x - a * y))
        x, y = x + a, y + b
    polygon = (2, tuple(found))
    return product(polygon, polygon)


class TestShadow(unittest.TestCase):
    def test_by_hand(self):
        self.assertEqual(unchanged(self, shadow, TRIANGLE, (0,)), (1, (((-1,), 0), ((1,), 4))))
        self.assertEqual(shadow(TRIANGLE, (1,)), (1, (((-1,), 0), ((1,), 2))))
        self.assertEqual(shadow(TRIANGLE, (0, 1)), TRIANGLE)
        self.assertEqual(shadow(TRIANGLE, ()), (0, ()))
        self.assertEqual(shadow(BARE, ()), (0, (((), -1),)))
        self.assertEqual(shadow(BARE, (1,)), (1, (((0,), -1),)))
        self.assertEqual(shadow((0, ()), ()), (0, ()))
        self.assertEqual(shadow((0, (((), -4),)), ()), (0, (((), -1),)))
        self.assertEqual(shadow(cross(3), (0, 2)), lean(cross(2)))
        self.assertEqual(shadow(simplex(6), (1, 3, 4)), lean(simplex(3)))
        self.assertEqual(shadow(cube(6), (0, 2, 3, 5)), lean(cube(4)))

    def test_by_elimination(self):
        told = seeded(111)
        for room in bounded_rooms(told, 40):
            for shown in all_shown(room[0]):
                self.assertEqual(shadow(room, shown), shadow_by_elimination(room, shown), (room, shown))

    def test_of_six(self):
        told = seeded(112)
        for n in (5, 6):
            for _ in range(4):
                room = random_room(told, n, 6, 3, "full")
                room = (n, room[1] + cube(n, -40, 40)[1])
                for shown in ((0,), (1, 4), (0, 2, 3)):
                    self.assertEqual(shadow(room, shown), shadow_by_elimination(room, shown))
                    paper = shadow_paper(room, shown)
                    self.assertIsNone(judge_shadow(room, shown, paper))
                    # A shadow of a shadow is the shadow.
                    self.assertEqual(shadow(shadow(room, shown), (len(shown) - 1,)), shadow(room, shown[-1:]))

    def test_refused(self):
        for call in (shadow, shadow_paper):
            for room in (WEDGE, (1, ()), (2, (((1, 1), 2), ((-1, -1), 3), ((0, 1), 5))), (6, cube(6)[1][:11])):
                for shown in all_shown(room[0]):
                    self.assertRaises(Unbounded, call, room, shown)
        room = (2, (((1, 0), 1), ((-1, 0), -2)))
        self.assertEqual(shadow(room, (0,)), (1, (((0,), -1),)))
        self.assertEqual(shadow_paper(room, (0,))[0], "bare")

    def test_too_great(self):
        room = great_shadow()
        self.assertEqual(shadow(room, (0, 1, 2, 3)), lean(room))
        self.assertRaises(TooGreat, shadow_paper, room, (0, 1, 2, 3))
        self.assertEqual(len(shadow_paper(room, (0, 1))[3]), len(corners((2, shadow(room, (0, 1))[1]))))
        # The shadow of many points, told by weights that make 1, has a side for each of theirs.
        points = [[t ** k for k in range(1, 4)] for t in range(-21, 22)]
        polar = (3, tuple((tuple(43 * p[k] - sum(q[k] for q in points) for k in range(3)), 10 ** 6) for p in points))
        self.assertEqual(len(shadow(polar, (0, 1, 2))[1]), 43)
        six = product(product(cross(2), cross(2)), cross(2))
        lines = (6, six[1])
        self.assertEqual(len(shadow(lines, (0, 1, 2, 3))[1]), 8)
        self.assertRaises(TooGreat, shadow, self.rich(), (0, 1, 2, 3))
        self.assertRaises(TooGreat, shadow_paper, self.rich(), (0, 1, 2, 3))

    def rich(self):
        """A room of 6 with 16 rows whose shadow of 4 has more than 80 sides."""
        told = seeded(7)
        rows = []
        for _ in range(16):
            a = tuple(told.randint(-1000, 1000) for _ in range(6))
            size = sum(x * x for x in a)
            root = 1
            while root * root < size:
                root += 1
            rows.append((a, 1000 * root))
        return (6, tuple(rows) + cube(6, -2000, 2000)[1])


    def test_just_too_great(self):
        for call in (shadow, shadow_paper):
            call(polygon(80), (0, 1))
            self.assertRaises(TooGreat, call, polygon(81), (0, 1))
            call(slanted(polygon(78)), (0, 1, 2))
            self.assertRaises(TooGreat, call, slanted(polygon(79)), (0, 1, 2))
            self.assertEqual(len(call(slanted(polygon(79)), (0, 1))[1]), 79)
        self.assertEqual(shadow(polygon(81), (1,)), (1, (((-1,), 0), ((1,), 6400))))

    def test_just_too_many_corners(self):
        # A product of polygons has as many corners as both numbers of theirs make multiplied.
        for one, other, is_great in ((15, 20, False), (43, 7, True), (17, 18, True)):
            room = product(polygon(one), polygon(other))
            if is_great:
                self.assertRaises(TooGreat, shadow_paper, room, (0, 1, 2, 3))
            else:
                self.assertEqual(len(shadow_paper(room, (0, 1, 2, 3))[3]), one * other)


class TestAbove(unittest.TestCase):
    def test_by_hand(self):
        self.assertEqual(unchanged(self, above, TRIANGLE, (0,), pt(4)), ("above", pt(4, 0)))
        self.assertEqual(judge_above(TRIANGLE, (0,), pt(3), ("above", pt(3, 0))), None)
        self.assertEqual(judge_above(TRIANGLE, (0,), pt(5), ("none", pt(0, 2, 1))), None)
        self.assertEqual(above((0, ()), (), ()), ("above", ()))
        self.assertEqual(above((0, (((), -3),)), (), ())[0], "none")
        self.assertEqual(above(WEDGE, (), ())[0], "above")
        self.assertEqual(above(WEDGE, (0, 1), pt(-1, 3))[0], "none")

    def test_all_sorts(self):
        told = seeded(113)
        words, faults = {}, {}
        for room in rooms_of_all_sorts(told, 250):
            n = room[0]
            shown = tuple(sorted(told.sample(range(n), told.randint(0, min(n, 4)))))
            point = pt(*[Fraction(told.randint(-4, 4), told.randint(1, 3)) for _ in shown])
            value = unchanged(self, above, room, shown, point)
            words[value[0]] = True
            self.assertIsNone(judge_above(room, shown, point, value))
            self.assertIsNone(referees.judge_above(room, shown, point, value))
            for _ in range(5):
                other = referees.changed(told, value, ODD)
                fault = judge_above(room, shown, point, other)
                self.assertEqual(fault, referees.judge_above(room, shown, point, other), (room, shown, point, other))
                faults[fault and fault[0]] = True
        self.assertEqual(sorted(words), ["above", "none"])
        self.assertTrue({"form", "shown", "row", "sum", "let", None} <= set(faults), faults)

    def test_judge(self):
        for shown, point, value, fault in [
                ((0,), pt(3), ("above", pt(2, 0)), ("shown", 0)), ((0,), pt(3), ("above", pt(3, 1)), ("row", 2)),
                ((0,), pt(3), ("above", pt(2, 9)), ("shown", 0)), ((0, 1), pt(3, 0), ("above", pt(3, 1)), ("shown", 1)),
                ((0,), pt(3), ("above", pt(3, -1)), ("row", 1)), ((0,), pt(3), ("above", pt(3)), ("form",)),
                ((0,), pt(3), ("none", pt(0, 2, 1)), ("let",)), ((0,), pt(4), ("none", pt(0, 2, 1)), ("let",)),
                ((0,), pt(5), ("none", pt(0, 1, 1)), ("sum", 1)), ((0,), pt(5), ("none", pt(0, -2, 1)), ("form",)),
                ((0,), pt(5), ("none", pt(0, 2)), ("form",)), ((1,), pt(5), ("none", pt(0, 1, 1)), ("sum", 0)),
                ((), (), ("none", pt(0, 1, 1)), ("sum", 0)), ((), (), ("none", pt(0, 0, 0)), ("let",)),
                ((0, 1), pt(4, 1), ("none", pt(0, 0, 1)), None), ((0, 1), pt(4, 0), ("none", pt(0, 0, 1)), ("let",))]:
            self.assertEqual(judge_above(TRIANGLE, shown, point, value), fault, value)
            self.assertEqual(referees.judge_above(TRIANGLE, shown, point, value), fault, value)
        for odd in ODD:
            self.assertEqual(judge_above(TRIANGLE, (0,), pt(3), odd), ("form",))
            self.assertEqual(judge_above(TRIANGLE, (0,), pt(3), ("above", odd)), ("form",))
            self.assertEqual(judge_above(TRIANGLE, (0,), pt(3), ("none", odd)), ("form",))


class TestPapers(unittest.TestCase):
    def test_all_sorts(self):
        told = seeded(114)
        words, faults = {}, {}
        for room in bounded_rooms(told, 60):
            for shown in all_shown(room[0]):
                paper = unchanged(self, shadow_paper, room, shown)
                words[paper[0]] = True
                self.assertEqual(paper[0] == "bare", is_bare(room))
                self.assertIsNone(judge_shadow(room, shown, paper))
                self.assertIsNone(referee(room, shown, paper))
                if paper[0] == "shadow":
                    self.assertEqual(lean((len(shown), paper[1])), shadow(room, shown))
                for _ in range(3):
                    value = referees.changed(told, paper, ODD)
                    fault = judge_shadow(room, shown, value)
                    self.assertEqual(fault, referee(room, shown, value), (room, shown, value))
                    faults[fault and fault[0]] = True
        self.assertEqual(sorted(words), ["bare", "shadow"])
        self.assertTrue({"form", "sum", "bound", "point", "above", "corner"} <= set(faults), faults)

    ROWS = (((-1,), 0), ((1,), 4))
    WEIGHTS = (pt(1, 0, 0), pt(0, 2, 1))
    PAIRS = ((pt(0), pt(0, 1)), (pt(4), pt(4, 0)))

    def test_each_fault(self):
        rows, weights, pairs = self.ROWS, self.WEIGHTS, self.PAIRS
        for value, fault in [
                (("shadow", rows, weights, pairs), None), (("shadow", rows, weights, ()), ("form",)),
                (("shadow", rows, weights[:1], pairs), ("form",)), (("shadow", rows, weights), ("form",)),
                (("shadow", list(rows), weights, pairs), ("form",)),
                (("shadow", rows, (pt(1, 0, 0), pt(0, -2, 1)), pairs), ("form",)),
                (("shadow", (((-1, 0), 0), ((1,), 4)), weights, pairs), ("form",)),
                (("shadow", rows, (weights[1], weights[0]), pairs), ("sum", 0, 0)),
                (("shadow", rows, (weights[0], pt(0, 1, 1)), pairs), ("sum", 1, 1)),
                (("shadow", (((-1,), -1), ((1,), 3)), weights, pairs), ("bound", 0)),
                (("shadow", (((-1,), 0), ((1,), 3)), weights, pairs[::-1]), ("bound", 1)),
                (("shadow", (((-1,), -1), ((1,), 4)), (weights[0], pt(0, 1, 1)), pairs), ("sum", 1, 1)),
                (("shadow", rows, weights, pairs[::-1]), ("order", 1)),
                (("shadow", rows, weights, (pairs[0], pairs[0], pairs[1])), ("order", 1)),
                (("shadow", rows, weights, (pairs[0], (pt(4), pt(4, 1)))), ("point", 1)),
                (("shadow", rows, weights, ((pt(1), pt(0, 1)), (pt(4), pt(4, 1)))), ("point", 1)),
                (("shadow", rows, weights, ((pt(1), pt(0, 1)), pairs[1])), ("above", 0)),
                (("shadow", rows, weights, ((pt(0), pt(1, 1)), pairs[1])), ("above", 0)),
                (("shadow", rows[:1], weights[:1], pairs), ("way",)), (("shadow", (), (), pairs), ("way",)),
                (("shadow", rows, weights, pairs[:1]), ("corner", pt(4))),
                (("shadow", rows, weights, pairs[1:]), ("corner", pt(0))),
                (("shadow", rows, weights, (pairs[0], (pt(2), pt(2, 1)), pairs[1])), ("corner", pt(2))),
                (("shadow", (((-1,), 0), ((1,), 5)), weights, pairs), ("corner", pt(4))),
                (("shadow", rows + rows, weights + weights, pairs), None),
                (("shadow", (((-2,), 0), ((1,), 4)), (pt(2, 0, 0), weights[1]), pairs), None),
                (("shadow", rows * 40, weights * 40, pairs), None),
                (("shadow", rows * 40 + rows[:1], weights * 40 + weights[:1], pairs), ("form",)),
                (("bare", pt(0, 0, 0)), ("bound", 0)), (("bare", pt(1, 1, 1)), ("sum", 0, 1)),
                (("bare", pt(2, 1, 1)), ("sum", 0, 0)), (("bare", pt(0, 0, -1)), ("form",)), (("bare",), ("form",))]:
            self.assertEqual(judge_shadow(TRIANGLE, (0,), value), fault, value)
            self.assertEqual(referee(TRIANGLE, (0,), value), fault, value)
        self.assertIsNone(judge_shadow(BARE, (0,), ("bare", pt(0, *[Fraction(1, 9)] * 3))))
        self.assertIsNone(judge_shadow(TRIANGLE, (), ("shadow", (), (), (((), pt(1, 1)),))))
        self.assertIsNone(judge_shadow(TRIANGLE, (), ("shadow", (((), 0),), (pt(0, 0, 0),), (((), pt(1, 1)),))))
        self.assertEqual(judge_shadow(TRIANGLE, (), ("shadow", (((), -1),), (pt(0, 0, 0),), (((), pt(1, 1)),))), ("bound", 0))
        for odd in ODD:
            for value in (odd, ("shadow", odd, weights, pairs), ("shadow", rows, odd, pairs), ("bare", odd),
                          ("shadow", rows, weights, odd), ("shadow", rows, weights, (odd,))):
                self.assertEqual(judge_shadow(TRIANGLE, (0,), value), ("form",), value)

    def test_unbounded_rooms_are_judged(self):
        # The shadow is bounded though the room is not; no right paper is refused for that.
        room = (2, (((1, 0), 3), ((-1, 0), 0), ((0, -1), 0)))
        paper = ("shadow", (((1,), 3), ((-1,), 0)), (pt(1, 0, 0), pt(0, 1, 0)), ((pt(0), pt(0, 7)), (pt(3), pt(3, 0))))
        self.assertIsNone(judge_shadow(room, (0,), paper))
        self.assertRaises(Unbounded, shadow_paper, room, (0,))

    def test_too_many_corners(self):
        room = many_corners(27)
        weights = tuple(pt(*[int(j == k) for j in range(27)]) for k in range(27))
        pairs = ((pt(0, 0, 0, 0), pt(0, 0, 0, 0)),)
        with self.assertRaises(TooGreat):
            judge_shadow(room, (0, 1, 2, 3), ("shadow", room[1], weights, pairs))
        self.assertEqual(judge_shadow(room, (0, 1, 2, 3), ("shadow", room[1], weights, ())), ("form",))
        less = (((room[1][0][0]), room[1][0][1] - 1),) + room[1][1:]
        self.assertEqual(judge_shadow(room, (0, 1, 2, 3), ("shadow", less, weights, pairs)), ("bound", 0))

    def test_worth_of_the_weights(self):
        told = seeded(115)
        for room in bounded_rooms(told, 30):
            if is_bare(room):
                continue
            paper = shadow_paper(room, tuple(range(room[0]))[:2])
            for (a, b), chosen in zip(paper[1], paper[2]):
                form, bound = referees.sums(room, chosen)
                self.assertEqual(form[:2], list(a))
                self.assertLessEqual(bound, b)
            self.assertTrue(all(product_of(a, numbers(y)) <= b for a, b in paper[1] for y, _ in paper[3]))
