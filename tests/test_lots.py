import itertools
import unittest
from fractions import Fraction

from everygust.cuts import volume
from everygust.errors import TooGreat, Unbounded
from everygust.hulls import hull
from everygust.images import image
from everygust.lean import lean
from everygust.lots import (
    all_at, clumps, hull_of_lot, is_one_room, judge_lot_paper, judge_road, lot_at, lot_less, lot_paper, lot_taken,
    lot_within, lots_alike, lots_met, road, spare, thinned, volume_of_lot)
from everygust.regions import less_lot
from everygust.rows import joined
from everygust.weights import is_bare
from tests import referees
from tests.helpers import (
    ODD, corners_by_trying, cross, cube, fr, is_within, number, numbers, polygon, pt, random_room, seeded, simplex,
    slanted, unchanged)
from tests.plants import some_bounded, some_matrix, some_standing
from tests.test_levels import stretch
from tests.test_regions import is_in_region
from tests.test_steps import never
from tests.test_weights import BARE, WEDGE


def rough(low, high):
    return (1, (((1,), high), ((-1,), -low)))


LOT = (rough(0, 2), rough(1, 3), rough(5, 6))
QUARTERS = tuple((2, cube(2, -2, 2)[1] + signs) for signs in (
    (((1, 0), 0), ((0, 1), 0)), (((-1, 0), 0), ((0, 1), 0)), (((1, 0), 0), ((0, -1), 0)), (((-1, 0), 0), ((0, -1), 0))))


def has_point(lot, x):
    return any(is_within(room, x) for room in lot)


def some_lot(told, n, most=4):
    found = []
    for _ in range(told.randint(0, most)):
        kind = told.random()
        if kind < 0.15:
            found.append(random_room(told, n, told.randint(0, 3), 2, "full"))
        elif found and kind < 0.3:
            found.append(told.choice(found))
        elif kind < 0.38:
            found.append(never(n))
        else:
            found.append(some_bounded(told, n, False))
    return tuple(found)


def split_up(told, room, many):
    """Rooms whose points together are those of a room: it is parted again and again."""
    n, cells = room[0], [room]
    while len(cells) < many:
        cell = cells.pop(told.randrange(len(cells)))
        a = tuple(told.randint(-1, 1) for _ in range(n))
        b = told.randint(-1, 1)
        cells.append((n, cell[1] + ((a, b),)))
        cells.append((n, cell[1] + ((tuple(-k for k in a), -b),)))
    told.shuffle(cells)
    return tuple(cells)


def some_pairs(told, many):
    """Pairs of lots, the one often within the other one."""
    found = [(LOT, LOT), (LOT[:2], (rough(0, 3),)), ((rough(0, 3),), LOT), ((rough(2, 5),), LOT), ((), LOT), (LOT, ()),
             ((), ()), ((BARE,), ()), ((cube(2, -2, 2),), QUARTERS), ((cube(2, -2, 2),), QUARTERS[:3]),
             ((cube(2, -2, 2),), QUARTERS[:3] + ((2, (((-1, -1), -1),)),)), ((WEDGE,), (WEDGE,)),
             (((2, ()),), ((2, (((1, 1), 0),)), (2, (((-1, -1), 0),)))), (((2, ()),), ((2, (((1, 1), 0),)), WEDGE)),
             (((0, ()),), ((0, (((), 1),)),)), (((0, ()),), (never(0),)), ((never(0),), ()),
             ((cube(2, 0, 0),), (cube(2, 0, 0), cube(2))), ((cube(2),), (cube(2, 0, 0), (2, cube(2)[1][:3])))]
    for _ in range(many):
        n = told.randint(0, 3)
        other = some_lot(told, n)
        kind = told.random()
        if kind < 0.35:
            room = some_bounded(told, n)
            other = split_up(told, room, told.randint(1, 5)) + other[:1]
            lot = (room,)
            if kind < 0.12:
                other = other[1:]
        elif kind < 0.7:
            lot = tuple(joined(room, cube(n, -1, 1)) for room in other) + other[:1]
        else:
            lot = some_lot(told, n)
        found.append((lot, other))
    return found


def wrong_node(n, rows, other, node):
    """The path of the first wrong node, told from the root on, or None."""
    if referees.told(node, "split", 4):
        row = node[1]
        good = type(row) is tuple and len(row) == 2 and type(row[0]) is tuple and len(row[0]) == n
        if not good or any(type(k) is not int for k in row[0] + (row[1],)):
            return ()
        away = (tuple(-k for k in row[0]), -row[1])
        for at, (more, part) in enumerate(((row, node[2]), (away, node[3]))):
            path = wrong_node(n, rows + (more,), other, part)
            if path is not None:
                return (at,) + path
        return None
    if referees.told(node, "bare", 2) and referees.is_weights(node[1], len(rows)):
        form, bound = referees.sums((n, rows), node[1])
        return () if any(form) or bound > -1 else None
    if not referees.told(node, "in", 3) or type(node[1]) is not int or not 0 <= node[1] < len(other):
        return ()
    room = other[node[1]]
    if type(node[2]) is not tuple or len(node[2]) != len(room[1]):
        return ()
    for (a, b), weights in zip(room[1], node[2]):
        if not referees.is_weights(weights, len(rows)):
            return ()
        form, bound = referees.sums((n, rows), weights)
        if form != list(a) or bound > b:
            return ()
    return None


def paper_referee(lot, other, value):
    if referees.told(value, "point", 3) and type(value[1]) is int and 0 <= value[1] < len(lot):
        if referees.is_list_of(value[2], lot[value[1]][0]):
            x = numbers(value[2])
            found = [("out",)] * (not is_within(lot[value[1]], x))
            return referees.first(found + [("in", j) for j, room in enumerate(other) if is_within(room, x)])
    if not referees.told(value, "trees", 2) or type(value[1]) is not tuple or len(value[1]) != len(lot):
        return ("form",)
    for k, (room, tree) in enumerate(zip(lot, value[1])):
        path = wrong_node(room[0], room[1], other, tree)
        if path is not None:
            return ("node", k, path)
    return None


class TestWithin(unittest.TestCase):
    def test_by_hand(self):
        self.assertIsNone(unchanged(self, lot_within, (rough(0, 3),), LOT))
        point = unchanged(self, lot_within, (rough(2, 5),), LOT)
        self.assertTrue(3 < number(point[0]) < 5)
        self.assertEqual([lot_at(LOT, pt(k)) for k in (0, 1, 3, 4, 5)], [0, 0, 1, None, 2])
        self.assertEqual([all_at(LOT, pt(k)) for k in (0, 1, 3, 4, 5)], [(0,), (0, 1), (1,), (), (2,)])
        self.assertEqual([lot_at((), pt(1)), all_at((), pt(1))], [None, ()])
        self.assertIsNone(lot_within((cube(2, -2, 2),), QUARTERS))
        self.assertIsNotNone(lot_within((cube(2, -2, 2),), QUARTERS[1:]))
        # Points alone and lines do not cover what lies between them, but each other.
        lines = tuple((2, (((1, 0), k), ((-1, 0), -k), ((0, 1), 2), ((0, -1), 2))) for k in (-1, 0, 1))
        for lot in (lines, lines[1:2], lines + ((2, (((0, 1), 0), ((0, -1), 0))), (2, (((1, 1), 0), ((-1, -1), 0))))):
            for some in (lot, lot[::-1], lot[2:] + lot[:2]):
                point = lot_within((cube(2),), some)
                self.assertTrue(is_within(cube(2), numbers(point)) and not has_point(some, numbers(point)), some)
        self.assertIsNone(lot_within((joined(cube(2), lines[1]),), lines))
        self.assertIsNone(lot_within((cube(2, 1, 1),), lines))

    def test_papers(self):
        told = seeded(301)
        words, faults = {}, {}
        for lot, other in some_pairs(told, 220):
            paper = unchanged(self, lot_paper, lot, other)
            words[paper[0]] = True
            self.assertIsNone(judge_lot_paper(lot, other, paper), (lot, other))
            self.assertIsNone(paper_referee(lot, other, paper))
            point = unchanged(self, lot_within, lot, other)
            self.assertIs(point is None, paper[0] == "trees")
            if point is not None:
                self.assertTrue(has_point(lot, numbers(point)) and not has_point(other, numbers(point)))
            for _ in range(4):
                value = referees.changed(told, paper, ODD)
                fault = judge_lot_paper(lot, other, value)
                self.assertEqual(fault, paper_referee(lot, other, value), (lot, other, value))
                faults[fault and fault[0]] = True
            self.assertIs(lots_alike(lot, other), point is None and lot_within(other, lot) is None)
        self.assertEqual(sorted(words), ["point", "trees"])
        self.assertTrue({"form", "in", "out", "node"} <= set(faults), faults)

    TREE = ("split", ((1,), 2), ("in", 0, (pt(0, 0, 1), pt(0, 1, 0))), ("in", 1, (pt(1, 0, 0), pt(0, 0, 1))))

    def test_each_fault(self):
        lot, tree = (rough(0, 3),), self.TREE
        cases = [
            (("trees", (tree,)), None), (("trees", tree), ("form",)), (("trees", ()), ("form",)),
            (("trees", (tree, tree)), ("form",)), (("tree", (tree,)), ("form",)), (["trees", (tree,)], ("form",)),
            (("trees", (tree[:1] + (((1,), 1),) + tree[2:],)), None),
            (("trees", (tree[:1] + (((1,), 0),) + tree[2:],)), ("node", 0, (1,))),
            (("trees", (tree[:1] + (((1,), 3),) + tree[2:],)), ("node", 0, (0,))),
            (("trees", (tree[:1] + (((1, 0), 2),) + tree[2:],)), ("node", 0, ())),
            (("trees", (tree[:2] + (tree[3], tree[2]),)), ("node", 0, (0,))),
            (("trees", (tree[:3] + (tree[2],),)), ("node", 0, (1,))),
            (("trees", (tree[:3] + (("in", 3, ()),),)), ("node", 0, (1,))),
            (("trees", (tree[:3] + (("in", 1, (pt(1, 0, 0),)),),)), ("node", 0, (1,))),
            (("trees", (tree[:3] + (("in", 1, (pt(2, 0, 1), pt(0, 0, 1))),),)), ("node", 0, (1,))),
            (("trees", (tree[:3] + (("in", 1, (pt(1, -1, -1), pt(0, 0, 1))),),)), ("node", 0, (1,))),
            (("trees", (tree[:3],)), ("node", 0, ())), (("trees", (("bare", pt(1, 1)),)), ("node", 0, ())),
            (("trees", (("split", ((1,), 9), tree, ("bare", pt(Fraction(1, 6), 0, Fraction(1, 6)))),)),
             ("node", 0, (0, 0))),
            (("point", 0, pt(3)), ("in", 1)), (("point", 0, pt(2)), ("in", 0)), (("point", 0, pt(4)), ("out",)),
            (("point", 1, pt(4)), ("form",)), (("point", 0, pt(4, 0)), ("form",)), (("point", 0), ("form",))]
        for value, fault in cases:
            self.assertEqual(judge_lot_paper(lot, LOT, value), fault, value)
            self.assertEqual(paper_referee(lot, LOT, value), fault, value)
        # More rows ahead of a tree: weights for each, and bare leaves with at most -1.
        wide = ("split", ((1,), 9), ("split",) + tree[1:2] + tuple(
            ("in", one[1], tuple(w[:2] + pt(0) + w[2:] for w in one[2])) for one in tree[2:]),
            ("bare", pt(Fraction(1, 6), 0, Fraction(1, 6))))
        self.assertIsNone(judge_lot_paper(lot, LOT, ("trees", (wide,))))
        less = wide[:3] + (("bare", pt(Fraction(1, 7), 0, Fraction(1, 7))),)
        self.assertEqual(judge_lot_paper(lot, LOT, ("trees", (less,))), ("node", 0, (1,)))
        self.assertIsNone(judge_lot_paper((rough(4, 4),), LOT, ("point", 0, pt(4))))
        self.assertIsNone(judge_lot_paper((), LOT, ("trees", ())))
        two = (rough(0, 1), rough(2, 3))
        trees = (("in", 0, (pt(1, 0), pt(0, 1))), ("in", 1, (pt(1, 0), pt(0, 1))))
        self.assertIsNone(judge_lot_paper(two, LOT, ("trees", trees)))
        self.assertEqual(judge_lot_paper(two, LOT, ("trees", (trees[0], trees[0]))), ("node", 1, ()))
        self.assertEqual(judge_lot_paper(two, LOT, ("trees", (7, trees[0]))), ("node", 0, ()))
        for odd in ODD:
            for value in (odd, ("trees", odd), ("trees", (odd,)), ("point", odd, pt(4)), ("point", 0, odd),
                          ("trees", (tree[:3] + (odd,),)), ("trees", (tree[:1] + (odd,) + tree[2:],))):
                self.assertEqual(judge_lot_paper(lot, LOT, value), paper_referee(lot, LOT, value), value)

    def test_just_within_in_time(self):
        told = seeded(302)
        whole = cube(3, -9, 9)
        cells = [(3, ())]
        for k in range(5):
            cell = cells.pop(0)
            a = tuple(told.randint(-10 ** 6, 10 ** 6) for _ in range(3))
            cells += [(3, cell[1] + ((a, k),)), (3, cell[1] + ((tuple(-v for v in a), -k),))]
        self.assertEqual(len(cells), 6)
        for lot in (tuple(cells), tuple(cells[1:])):
            paper = lot_paper((whole,), lot)
            self.assertEqual(paper[0], "trees" if len(lot) == 6 else "point")
            self.assertIsNone(judge_lot_paper((whole,), lot, paper))
        polygons = []
        for _ in range(6):
            x, y = told.randint(-9, 9), told.randint(-9, 9)
            rows = []
            while len(rows) < 6:
                a = (told.randint(-10 ** 6, 10 ** 6), told.randint(-10 ** 6, 10 ** 6))
                rows.append((a, a[0] * x + a[1] * y + 5 * sum(abs(k) for k in a)))
            polygons.append((2, tuple(rows)))
        lot = tuple(polygons)
        paper = lot_paper((cube(2, -30, 30),), lot)
        self.assertIsNone(judge_lot_paper((cube(2, -30, 30),), lot, paper))
        self.assertTrue(lots_alike(lot, lot[::-1]))


class TestThinned(unittest.TestCase):
    def test_by_hand(self):
        self.assertEqual(unchanged(self, spare, LOT), ())
        self.assertEqual(unchanged(self, spare, LOT + (rough(0, 3),)), (3,))
        self.assertEqual(spare((rough(0, 3),) + LOT), (1, 2))
        self.assertEqual(spare((rough(0, 3), rough(0, 3))), (1,))
        self.assertEqual(spare((BARE, BARE)), (0, 1))
        self.assertEqual(spare(()), ())
        self.assertEqual(thinned((BARE,)), ())
        self.assertEqual(unchanged(self, thinned, LOT + (rough(0, 3),)), tuple(lean(room) for room in LOT))
        self.assertEqual(spare(QUARTERS + (cube(2, -2, 2),)), (4,))
        self.assertEqual(spare((cube(2, -2, 2),) + QUARTERS), (1, 2, 3, 4))

    def test_what_holds(self):
        told = seeded(303)
        for _ in range(60):
            n = told.randint(0, 3)
            lot = some_lot(told, n, 3) if told.random() < 0.5 else split_up(told, cube(n), 3) + some_lot(told, n, 1)
            gone = spare(lot)
            found = unchanged(self, thinned, lot)
            self.assertEqual(found, tuple(lean(room) for k, room in enumerate(lot) if k not in gone))
            self.assertTrue(lots_alike(found, lot))
            self.assertTrue(all(k in gone for k, room in enumerate(lot) if is_bare(room)))
            for k in range(len(found)):
                self.assertIsNotNone(lot_within(found, found[:k] + found[k + 1:]))
            # Room by room from the last one on.
            left = list(range(len(lot)))
            for k in reversed(range(len(lot))):
                rest = tuple(lot[j] for j in left if j != k)
                if lot_within((lot[k],), rest) is None:
                    left.remove(k)
            self.assertEqual(tuple(k for k in range(len(lot)) if k not in left), gone)


class TestApart(unittest.TestCase):
    def test_by_hand(self):
        found = unchanged(self, lot_less, LOT, (rough(1, 2),))
        self.assertEqual(found, (
            (1, (((1,), 2), ((-1,), 0), ((1,), 2)), (((1,), 1),)),
            (1, (((1,), 3), ((-1,), -1)), (((-1,), -2), ((-1,), -2))),
            (1, (((1,), 6), ((-1,), -5)), (((-1,), -2), ((-1,), -2), ((-1,), -3)))))
        self.assertEqual(unchanged(self, volume_of_lot, LOT), (4, 1))
        self.assertEqual(lot_less((), LOT), ())
        self.assertEqual([volume_of_lot(()), volume_of_lot((BARE,)), volume_of_lot(((0, ()), (0, ())))], [(0, 1), (0, 1), (1, 1)])

    def test_as_told(self):
        told = seeded(304)
        for _ in range(70):
            n = told.randint(0, 3)
            lot, other = some_lot(told, n, 3), some_lot(told, n, 2)
            found = unchanged(self, lot_less, lot, other)
            due = []
            for k, (n, rows) in enumerate(lot):
                due += list(less_lot((n, rows, ()), other + lot[:k]))
            self.assertEqual(list(found), due)
            for _ in range(6):
                x = some_standing(told, n, 1)
                is_left = has_point(lot, x) and not has_point(other, x)
                self.assertEqual(sum(is_in_region(region, x) for region in found), int(is_left))

    def test_volumes(self):
        told = seeded(305)
        for _ in range(40):
            n = told.randint(1, 3)
            lot = tuple(some_bounded(told, n, False) for _ in range(told.randint(1, 3)))
            due = Fraction(0)
            for many in range(1, len(lot) + 1):
                for some in itertools.combinations(lot, many):
                    both = (n, tuple(row for room in some for row in room[1]))
                    if not is_bare(both):
                        due += (-1) ** (many - 1) * number(volume(both))
            self.assertEqual(volume_of_lot(lot), fr(due))
            self.assertEqual(volume_of_lot(lot[::-1] + lot[:1]), fr(due))
            parts = split_up(told, lot[0], 4)
            self.assertEqual(volume_of_lot(parts), volume_of_lot(lot[:1]))

    def test_refused(self):
        strips = tuple(rough(2 * k, 2 * k + 1) for k in range(299))
        whole = (rough(-1, 9999),)
        self.assertEqual(len(lot_less(whole, strips)), 300)
        self.assertRaises(TooGreat, lot_less, whole, strips + (rough(700, 701),))
        # One region more of another room is too many in the end.
        self.assertRaises(TooGreat, lot_less, whole + (rough(-9, -8),), strips)
        self.assertEqual(len(lot_less(whole + (rough(-9, -8), ), strips[1:])), 300)
        self.assertRaises(TooGreat, volume_of_lot, tuple(rough(2 * k, 2 * k + 1) for k in range(301)))
        self.assertRaises(Unbounded, volume_of_lot, (cube(2), WEDGE))
        self.assertRaises(Unbounded, volume_of_lot, tuple(rough(2 * k, 2 * k + 1) for k in range(301)) + ((1, ()),))
        # A room that is bare has no way.
        far = (2, (((1, 0), 0), ((-1, 0), -1)))
        self.assertEqual(volume_of_lot((far, cube(2))), (4, 1))


class TestMade(unittest.TestCase):
    def test_met(self):
        self.assertEqual(unchanged(self, lots_met, LOT, (rough(2, 5), rough(0, 1))), (
            stretch(2, 2), stretch(0, 1), stretch(2, 3), stretch(1, 1), stretch(5, 5)))
        self.assertEqual([lots_met(LOT, ()), lots_met((), LOT)], [(), ()])
        self.assertEqual(lots_met((WEDGE,), (cube(2),)), (lean(cube(2, 0, 1)),))
        told = seeded(306)
        for _ in range(40):
            n = told.randint(0, 3)
            lot, other = some_lot(told, n, 3), some_lot(told, n, 3)
            found = lots_met(lot, other)
            due = [lean(joined(one, two)) for one in lot for two in other]
            self.assertEqual(found, tuple(room for room in due if not is_bare(room)))
        self.assertEqual(len(lots_met((polygon(80),), ((2, ()),))[0][1]), 80)
        self.assertRaises(TooGreat, lots_met, (polygon(81),), ((2, ()),))
        self.assertEqual(lots_met((polygon(81),), (cube(2, -9, -8),)), ())

    def test_taken(self):
        line = (pt(1, 1),)
        self.assertEqual(unchanged(self, lot_taken, line, pt(3), (cube(2), BARE, cube(2, 5, 5))), (
            stretch(1, 5), stretch(13, 13)))
        self.assertEqual(lot_taken(line, pt(3), ()), ())
        told = seeded(307)
        for _ in range(30):
            n, p = told.randint(0, 3), told.randint(1, 3)
            lot = tuple(some_bounded(told, n, False) for _ in range(3))
            matrix, shift = some_matrix(told, p, n), pt(*some_standing(told, p, 1))
            due = tuple(image(matrix, shift, room) for room in lot if not is_bare(room))
            self.assertEqual(lot_taken(matrix, shift, lot), due)
        self.assertRaises(Unbounded, lot_taken, line, pt(3), (cube(2), WEDGE))
        flat = (pt(1, 0), pt(0, 1), pt(1, 1))
        self.assertRaises(TooGreat, lot_taken, flat, pt(0, 0, 0), (polygon(79),))
        self.assertRaises(Unbounded, lot_taken, flat, pt(0, 0, 0), (polygon(79), WEDGE))

    def test_one_room(self):
        self.assertEqual(unchanged(self, hull_of_lot, LOT), stretch(0, 6))
        self.assertEqual([is_one_room(LOT), is_one_room(LOT[:2]), is_one_room(LOT[2:])], [False, True, True])
        self.assertIs(is_one_room(()), True)
        self.assertIs(is_one_room((BARE, BARE)), True)
        self.assertEqual(hull_of_lot((BARE, BARE)), never(2))
        self.assertIs(is_one_room(QUARTERS), True)
        self.assertIs(is_one_room(QUARTERS[:3]), False)
        self.assertEqual(hull_of_lot(QUARTERS[:3]), lean((2, cube(2, -2, 2)[1] + (((1, 1), 2),))))
        self.assertIs(is_one_room((simplex(2), (2, cube(2, 0, 1)[1] + (((-1, -1), -1),)))), True)
        self.assertIs(is_one_room((cross(2), cube(2))), True)
        told = seeded(308)
        for _ in range(40):
            n = told.randint(0, 3)
            lot = tuple(some_bounded(told, n, False) for _ in range(told.randint(1, 4)))
            corners = sorted({point for room in lot for point in corners_by_trying(room)})
            found = unchanged(self, hull_of_lot, lot)
            self.assertEqual(found, hull(n, [pt(*point) for point in corners]))
            self.assertIs(is_one_room(lot), lots_alike((found,), lot))
            self.assertIs(is_one_room(split_up(told, cube(n), 4)), True)
        for call in (hull_of_lot, is_one_room):
            self.assertRaises(Unbounded, call, (cube(2), WEDGE))
            self.assertRaises(TooGreat, call, (polygon(81),))
            self.assertRaises(Unbounded, call, (polygon(81), WEDGE))
            self.assertRaises(TooGreat, call, (slanted(polygon(79)),))


def road_referee(lot, point, other, value):
    n = len(point)
    if type(value) is not tuple or not value or not all(referees.is_list_of(one, n) for one in value):
        return ("form",)
    found = [("begin",)] * (value[0] != point) + [("end",)] * (value[-1] != other)
    for k in range(len(value) - 1):
        both = any(is_within(room, numbers(value[k])) and is_within(room, numbers(value[k + 1])) for room in lot)
        found += [("leap", k)] * (not both)
    alone = len(value) == 1 and not has_point(lot, numbers(value[0]))
    return referees.first(found + [("leap", 0)] * alone)


class TestRoads(unittest.TestCase):
    def test_by_hand(self):
        self.assertEqual(unchanged(self, clumps, LOT), ((0, 1), (2,)))
        self.assertEqual(clumps((rough(0, 1), BARE[:0] + never(1), rough(3, 4), rough(1, 3))), ((0, 2, 3),))
        self.assertEqual([clumps(()), clumps((BARE,))], [(), ()])
        found = unchanged(self, road, LOT, pt(0), pt(3))
        self.assertIsNone(judge_road(LOT, pt(0), pt(3), found))
        self.assertIsNone(judge_road(LOT, pt(0), pt(3), (pt(0), pt(2), pt(3))))
        self.assertIsNone(road(LOT, pt(0), pt(5)))
        self.assertIsNone(road(LOT, pt(0), pt(4)))
        self.assertIsNone(road(LOT, pt(4), pt(4)))
        self.assertIsNone(road((), pt(4), pt(4)))
        self.assertIsNone(judge_road(LOT, pt(1), pt(1), road(LOT, pt(1), pt(1))))
        self.assertEqual(clumps(((2, (((1, 0), 0),)), (2, (((-1, 0), 0),)), cube(2, 3, 4))), ((0, 1, 2),))

    def test_what_holds(self):
        told = seeded(309)
        words = {}
        for _ in range(80):
            n = told.randint(0, 3)
            lot = tuple(joined(some_bounded(told, n, False), cube(n, low, low + 1)) for low in
                        [told.randint(-2, 2) for _ in range(told.randint(0, 5))])
            lot += some_lot(told, n, 1)
            groups = clumps(lot)
            self.assertEqual(sorted(k for group in groups for k in group),
                             [k for k, room in enumerate(lot) if not is_bare(room)])
            self.assertEqual(groups, tuple(sorted(tuple(sorted(group)) for group in groups)))
            for j, k in itertools.combinations(range(len(lot)), 2):
                if not is_bare((n, lot[j][1] + lot[k][1])):
                    self.assertTrue(any(j in group and k in group for group in groups))
            points = [pt(*some_standing(told, n, 1)) for _ in range(2)]
            points += [pt(*point) for room in lot for point in corners_by_trying(room)[:2]]
            for point, other in itertools.islice(itertools.product(points, repeat=2), 30):
                found = road(lot, point, other)
                holds = any(set(all_at(lot, point)) & set(group) and set(all_at(lot, other)) & set(group)
                            for group in groups)
                self.assertIs(found is not None, holds)
                words[holds] = True
                if found is not None:
                    self.assertIsNone(judge_road(lot, point, other, found))
                    self.assertTrue(len(found) <= len(lot) + 1)
        self.assertEqual(len(words), 2)

    def test_long_roads(self):
        chain = tuple(rough(k, k + 1) for k in (3, 1, 5, 0, 4, 2))
        found = road(chain, pt(0), pt(6))
        self.assertEqual(found, tuple(pt(k) for k in range(7)))
        self.assertIsNone(judge_road(chain, pt(0), pt(6), found))
        both = found[:3] + found[1:]
        self.assertIsNone(judge_road(chain, pt(0), pt(6), both))

    def test_each_fault(self):
        for begin, end, value, fault in [
                (0, 3, (pt(0), pt(2), pt(3)), None), (0, 3, (pt(0), pt(3)), ("leap", 0)),
                (0, 3, (pt(0), pt(2)), ("end",)), (0, 3, (pt(1), pt(3)), ("begin",)), (0, 3, (pt(2),), ("begin",)),
                (0, 3, (pt(0),), ("end",)), (1, 1, (pt(1),), None), (4, 4, (pt(4),), ("leap", 0)),
                (4, 4, (pt(4), pt(4)), ("leap", 0)), (0, 6, (pt(0), pt(2), pt(3), pt(5), pt(6)), ("leap", 2)),
                (0, 3, (), ("form",)), (0, 3, (pt(0), pt(2, 0), pt(3)), ("form",)), (0, 3, [pt(0), pt(3)], ("form",)),
                (0, 3, (pt(0), 2, pt(3)), ("form",)), (0, 3, (pt(0), pt(1), pt(1), pt(2), pt(3)), None)]:
            self.assertEqual(judge_road(LOT, pt(begin), pt(end), value), fault, value)
            self.assertEqual(road_referee(LOT, pt(begin), pt(end), value), fault, value)
        for odd in ODD:
            for value in (odd, (odd,), (pt(0), odd, pt(3))):
                self.assertEqual(judge_road(LOT, pt(0), pt(3), value), road_referee(LOT, pt(0), pt(3), value), value)
        self.assertEqual(judge_road((), (), (), ((),)), ("leap", 0))
        self.assertIsNone(judge_road(((0, ()),), (), (), ((),)))
