import itertools
import unittest
from fractions import Fraction

from everygust.errors import TooGreat
from everygust.lean import lean
from everygust.regions import (
    closing, in_region, judge_region, less_lot, region_less, region_paper, region_point)
from tests import referees
from tests.helpers import (
    ODD, cross, cube, is_within, numbers, polygon, product_of, pt, random_room, seeded, unchanged)
from tests.plants import some_bounded, some_standing
from tests.test_steps import never
from tests.test_weights import BARE, TRIANGLE, WEDGE


def is_in_region(region, x):
    n, rows, strict = region
    return is_within((n, rows), x) and all(product_of(a, x) < b for a, b in strict)


def region_referee(region, value):
    n, rows, strict = region
    if referees.told(value, "point", 2) and referees.is_list_of(value[1], n):
        x = numbers(value[1])
        found = [("row", k) for k, (a, b) in enumerate(rows) if product_of(a, x) > b]
        found += [("row", len(rows) + k) for k, (a, b) in enumerate(strict) if product_of(a, x) >= b]
        return referees.first(found)
    good = referees.told(value, "weights", 3) and referees.is_weights(value[1], len(rows))
    if not good or not referees.is_weights(value[2], len(strict)):
        return ("form",)
    one, first = referees.sums((n, rows), value[1])
    two, second = referees.sums((n, strict), value[2])
    if any(x + y for x, y in zip(one, two)):
        return ("sum",)
    some = any(weight[0] for weight in value[2])
    return None if first + second < 0 or first + second == 0 and some else ("number",)


def some_region(told, n):
    kind = told.choice(["any", "full", "flat", "point", "point"])
    room = random_room(told, n, told.randint(0, 4), 2, kind)
    other = random_room(told, n, told.randint(0, 3), 2, told.choice(["any", "full", "point"]))
    rows = list(room[1])
    if told.random() < 0.5:
        rows += list(cube(n, -2, 3)[1])
    strict = list(other[1])
    if rows and told.random() < 0.4:
        # A strict row that bars just what some row lets reach its bound.
        a, b = told.choice(rows)
        strict.append(told.choice([(a, b), (tuple(-k for k in a), -b)]))
    return (n, tuple(rows), tuple(strict))


def some_regions(told, many):
    found = [(0, (), ()), (0, (), (((), 0),)), (0, (((), 0),), (((), 1),)), (1, (((1,), 0),), (((-1,), 0),)),
             (1, (), ()), (2, WEDGE[1], ()), (2, (), WEDGE[1]), (2, BARE[1], ()), (2, (), BARE[1]), (3, (), ()),
             (1, (((1,), 1), ((-1,), -1)), ()), (1, (((1,), 1), ((-1,), -1)), (((0,), 1),)),
             (1, (((1,), 1), ((-1,), -1)), (((1,), 1),)), (2, (), (((1, 1), 0), ((-1, -1), 0))),
             (2, (((1, 1), 0), ((-1, -1), 0)), (((1, 0), 5),)), (2, (((1, 1), 0), ((-1, -1), 0)), (((2, 2), 0),))]
    return found + [some_region(told, told.randint(0, 3)) for _ in range(many)]


class TestPoints(unittest.TestCase):
    def test_by_hand(self):
        region = (1, (((1,), 2),), (((-1,), 0),))
        self.assertIs(in_region(region, pt(2)), True)
        self.assertIs(in_region(region, pt(0)), False)
        self.assertIs(in_region(region, pt(3)), False)
        self.assertIs(in_region((0, (), ()), ()), True)
        self.assertIs(in_region((0, (), (((), 0),)), ()), False)
        self.assertEqual(closing(region), (1, (((-1,), 0), ((1,), 2))))
        barred = (1, (((1,), 0),), (((-1,), 0),))
        self.assertIsNone(region_point(barred))
        self.assertEqual(closing(barred), never(1))
        self.assertEqual(region_paper(barred), ("weights", pt(1), pt(1)))

    def test_papers(self):
        told = seeded(291)
        words, faults = {}, {}
        for region in some_regions(told, 250):
            paper = unchanged(self, region_paper, region)
            point = unchanged(self, region_point, region)
            self.assertIsNone(judge_region(region, paper))
            self.assertIsNone(region_referee(region, paper))
            self.assertIs(paper[0] == "point", point is not None)
            words[paper[0]] = True
            n, rows, strict = region
            if point is None:
                self.assertEqual(closing(region), never(n))
            else:
                self.assertTrue(is_in_region(region, numbers(point)))
                self.assertEqual(closing(region), lean((n, rows + strict)))
            for _ in range(4):
                value = referees.changed(told, paper, ODD)
                fault = judge_region(region, value)
                self.assertEqual(fault, region_referee(region, value), (region, value))
                faults[fault and fault[0]] = True
            x = some_standing(told, n, 1)
            self.assertIs(in_region(region, pt(*x)), is_in_region(region, x))
        self.assertEqual(sorted(words), ["point", "weights"])
        self.assertTrue({"form", "row", "sum", "number", None} <= set(faults), faults)

    def test_each_fault(self):
        region = (1, (((1,), 2),), (((-1,), 0),))
        barred = (1, (((1,), 0), ((1,), 5)), (((-1,), 0), ((0,), 0)))
        for told, value, fault in [
                (region, ("point", pt(1)), None), (region, ("point", pt(3)), ("row", 0)),
                (region, ("point", pt(0)), ("row", 1)), (region, ("point", pt(1, 1)), ("form",)),
                (region, ("weights", pt(1), pt(1)), ("number",)), (region, ("weights", pt(1), pt(0)), ("sum",)),
                (region, ("weights", pt(0), pt(0)), ("number",)), (region, ("weights", pt(1), pt(1, 1)), ("form",)),
                (region, ("weights", pt(1), pt(-1)), ("form",)), (region, ("weights", pt(1)), ("form",)),
                (barred, ("weights", pt(1, 0), pt(1, 0)), None), (barred, ("weights", pt(0, 0), pt(0, 1)), None),
                (barred, ("weights", pt(0, 0), pt(0, 0)), ("number",)),
                (barred, ("weights", pt(1, 0), pt(0, 0)), ("sum",)),
                (barred, ("weights", pt(0, 1), pt(1, 3)), ("number",)), (barred, ("point", pt(0)), ("row", 2)),
                (barred, ("point", pt(9)), ("row", 0)), (barred, ("point", pt(-9)), ("row", 2)),
                (barred, ("points", pt(-9)), ("form",)), (barred, ["point", pt(-9)], ("form",))]:
            self.assertEqual(judge_region(told, value), fault, value)
            self.assertEqual(region_referee(told, value), fault, value)
        bare = (1, (((1,), 0), ((-1,), -1)), (((1,), 9),))
        self.assertIsNone(judge_region(bare, ("weights", pt(2, 2), pt(0))))
        self.assertEqual(judge_region((1, (((1,), 0), ((-1,), 0)), ()), ("weights", pt(2, 2), ())), ("number",))
        for odd in ODD:
            for value in (odd, ("point", odd), ("weights", odd, pt(1)), ("weights", pt(1), odd)):
                self.assertEqual(judge_region(region, value), region_referee(region, value), value)

    def test_closing_too_great(self):
        self.assertEqual(len(closing((2, polygon(80)[1], ()))[1]), 80)
        self.assertRaises(TooGreat, closing, (2, polygon(81)[1], ()))
        self.assertRaises(TooGreat, closing, (2, polygon(81)[1][:9], polygon(81)[1][9:]))


def told_less(region, room):
    """The regions of S7.3 as they are told, also those without points."""
    n, rows, strict = region
    found = []
    for k, (a, b) in enumerate(room[1]):
        found.append((n, rows + room[1][:k], strict + ((tuple(-v for v in a), -b),)))
    return found


def with_points(region):
    paper = region_paper(region)
    assert region_referee(region, paper) is None
    return paper[0] == "point"


class TestLess(unittest.TestCase):
    def test_by_hand(self):
        region = (1, (((1,), 3), ((-1,), 0)), ())
        self.assertEqual(unchanged(self, region_less, region, (1, (((1,), 2), ((-1,), -1)))), (
            (1, (((1,), 3), ((-1,), 0)), (((-1,), -2),)), (1, (((1,), 3), ((-1,), 0), ((1,), 2)), (((1,), 1),))))
        self.assertEqual(region_less(region, (1, ())), ())
        self.assertEqual(region_less(region, cube(1, -4, 4)), ())
        self.assertEqual(region_less((1, never(1)[1], ()), cube(1)), ())
        self.assertEqual(region_less(region, never(1)), ((1, region[1], (((0,), 1),)),))
        self.assertEqual(less_lot(region, ()), (region,))
        self.assertEqual(less_lot((1, (((1,), 0),), (((-1,), 0),)), ()), ())
        self.assertEqual(less_lot(region, (cube(1, 0, 1), cube(1, 1, 3))), ())
        self.assertEqual(region_less((0, (), ()), (0, (((), -1),))), ((0, (), (((), 1),)),))

    def test_as_told(self):
        told = seeded(292)
        for region in some_regions(told, 150):
            n = region[0]
            room = random_room(told, n, told.randint(0, 4), 2, told.choice(["any", "full", "flat", "point"]))
            if told.random() < 0.3 and region[1]:
                room = (n, room[1] + (told.choice(region[1]),))
            found = unchanged(self, region_less, region, room)
            self.assertEqual(list(found), [one for one in told_less(region, room) if with_points(one)], (region, room))
            for _ in range(5):
                x = some_standing(told, n, 1)
                broken = [k for k, (a, b) in enumerate(room[1]) if product_of(a, x) > b]
                holders = [one for one in found if is_in_region(one, x)]
                self.assertEqual(len(holders), int(is_in_region(region, x) and bool(broken)))
                if holders:
                    self.assertEqual(len(holders[0][1]) - len(region[1]), broken[0])

    def test_lots(self):
        told = seeded(293)
        for region in some_regions(told, 50):
            n = region[0]
            lot = tuple(some_bounded(told, n, False) for _ in range(told.randint(0, 3)))
            found = unchanged(self, less_lot, region, lot)
            due = [region] if with_points(region) else []
            for room in lot:
                due = [one for before in due for one in told_less(before, room) if with_points(one)]
            self.assertEqual(list(found), due)
            for _ in range(5):
                x = some_standing(told, n, 1)
                is_left = is_in_region(region, x) and not any(is_within(room, x) for room in lot)
                self.assertEqual(sum(is_in_region(one, x) for one in found), int(is_left))

    def test_grids(self):
        # At all points of a grid, with rows whose bounds lie on it.
        region = (2, cube(2, 0, 2)[1], ())
        lot = (cube(2, 0, 1), (2, (((1, 1), 3), ((-1, -1), -3))), cross(2))
        found = less_lot(region, lot)
        for x in itertools.product([Fraction(k, 2) for k in range(-1, 6)], repeat=2):
            is_left = is_in_region(region, x) and not any(is_within(room, x) for room in lot)
            self.assertEqual(sum(is_in_region(one, x) for one in found), int(is_left))

    def test_too_great(self):
        def strips(many):
            return tuple((1, (((1,), 2 * k + 1), ((-1,), -2 * k))) for k in range(many))
        line = (1, (), ())
        # Behind each strip one region more is left; 300 are told, one more is not.
        self.assertEqual(len(less_lot(line, strips(299))), 300)
        self.assertRaises(TooGreat, less_lot, line, strips(300))
        self.assertRaises(TooGreat, less_lot, line, strips(300) + ((1, ()),))
        self.assertEqual(less_lot(line, strips(299) + ((1, ()),)), ())
        self.assertEqual(less_lot((1, never(1)[1], ()), strips(300)), ())

    def test_just_within_in_time(self):
        told = seeded(294)
        lot = []
        for _ in range(6):
            rows = []
            while len(rows) < 6:
                a = tuple(told.randint(-10 ** 6, 10 ** 6) for _ in range(3))
                rows.append((a, sum(abs(k) for k in a) * told.randint(1, 9)))
            lot.append((3, tuple(rows)))
        try:
            self.assertTrue(len(less_lot((3, TRIANGLE_ROOF[1], ()), tuple(lot))) <= 300)
        except TooGreat:
            pass


TRIANGLE_ROOF = (3, tuple((a + (0,), b) for a, b in TRIANGLE[1]) + cube(3, -9, 9)[1])
