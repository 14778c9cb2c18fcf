import unittest
from fractions import Fraction

from everygust.errors import TooGreat
from everygust.lean import lean
from everygust.levels import levels
from everygust.rows import is_in
from everygust.steps import back, leads
from everygust.weights import is_bare
from everygust.wishes import a_wish, bar, good_wishes, judge_bar
from tests import referees
from tests.helpers import ODD, cube, is_within, numbers, polygon, product_of, pt, seeded, unchanged
from tests.plants import DRIFT, D_GOAL, SLIDE, STILL, WEAK, asked, has_points, near, some_standing
from tests.test_books import is_parts, paper_sums
from tests.test_steps import never, plants
from tests.test_weights import BARE, WEDGE

BAR = (((0, (1, 1), pt(1)),), pt(0, 1))


def bar_referee(plant, room, x, value):
    good = type(value) is tuple and len(value) == 2 and is_parts(plant, len(room[1]), value[0])
    if not good or not referees.is_weights(value[1], len(plant[4][1])):
        return ("form",)
    found = [("gust", p) for p, part in enumerate(value[0]) if not is_within(plant[5], numbers(part[2]))]
    turn, form, bound = paper_sums(plant, None, room[1], value + (None,))
    found += [("turn",)] * any(turn)
    return referees.first(found + [("sum",)] * (bound - product_of(form, numbers(x)) >= 0))


class TestGoodWishes(unittest.TestCase):
    def test_by_hand(self):
        self.assertEqual(unchanged(self, good_wishes, DRIFT, D_GOAL, pt(5)), (1, (((-1,), 2), ((1,), -2))))
        self.assertEqual(unchanged(self, a_wish, DRIFT, D_GOAL, pt(5)), pt(-2))
        self.assertEqual(good_wishes(DRIFT, D_GOAL, pt(6)), never(1))
        self.assertIsNone(unchanged(self, a_wish, DRIFT, D_GOAL, pt(6)))
        self.assertEqual(good_wishes(DRIFT, D_GOAL, pt(3)), lean(cube(1, 0, 0)))
        self.assertEqual(good_wishes(DRIFT, (1, ()), pt(99)), lean(cube(1, -2, 2)))
        self.assertEqual(good_wishes(STILL, cube(2), pt(1, 1)), (0, ()))
        self.assertEqual(a_wish(STILL, cube(2), pt(1, 1)), ())
        self.assertEqual(good_wishes(STILL, cube(2), pt(1, 2)), (0, (((), -1),)))
        self.assertIsNone(a_wish(STILL, cube(2), pt(1, 2)))
        self.assertEqual(good_wishes(SLIDE, WEDGE, pt(0, 0)), never(1))
        self.assertEqual(good_wishes(SLIDE, WEDGE, pt(1, 0)), (1, (((-1,), 0), ((1,), 1))))

    def test_all_sorts(self):
        told = seeded(251)
        words = {}
        for plant, room in plants(told, 60):
            m = plant[4][0]
            for x in [some_standing(told, len(plant[0]), 1)] + near(told, back(plant, room), 1)[:3]:
                point = pt(*x)
                rows = asked(plant, x, room)
                found = unchanged(self, good_wishes, plant, room, point)
                self.assertEqual(found, lean(found))
                self.assertIs(is_bare(found), not has_points(m, rows))
                for u in [some_standing(told, m, 1) for _ in range(3)] + near(told, found, 1)[:4]:
                    self.assertEqual(is_within(found, u), all(product_of(a, u) <= b for a, b in rows))
                wish, shut = unchanged(self, a_wish, plant, room, point), unchanged(self, bar, plant, room, point)
                self.assertIs(wish is None, is_bare(found))
                self.assertIs(shut is None, not is_bare(found))
                self.assertIs(is_in(back(plant, room), point), wish is not None)
                words[wish is None] = True
                if wish is not None:
                    self.assertTrue(is_in(plant[4], wish) and leads(plant, point, wish, room))
                else:
                    self.assertIsNone(judge_bar(plant, room, point, shut))
                    self.assertIsNone(bar_referee(plant, room, point, shut))
        self.assertEqual(len(words), 2)

    def test_too_great(self):
        plant = ((pt(1, 0), pt(0, 1)), (pt(1, 0), pt(0, 1)), ((), ()), pt(0, 0), cube(2, -9999, 9999), (0, ()))
        self.assertEqual(good_wishes(plant, polygon(80), pt(0, 0)), lean(polygon(80)))
        self.assertRaises(TooGreat, good_wishes, plant, polygon(81), pt(0, 0))
        close = plant[:4] + (cube(2, 0, 4), (0, ()))
        self.assertTrue(len(good_wishes(close, polygon(81), pt(0, 0))[1]) < 10)
        self.assertIsNotNone(a_wish(plant, polygon(81), pt(0, 0)))


class TestBars(unittest.TestCase):
    def test_changed(self):
        told = seeded(252)
        faults = {}
        for plant, room in plants(told, 60):
            x = pt(*some_standing(told, len(plant[0]), 2))
            shut = bar(plant, room, x)
            for _ in range(6 if shut else 0):
                value = referees.changed(told, shut, ODD)
                fault = judge_bar(plant, room, x, value)
                self.assertEqual(fault, bar_referee(plant, room, x, value), (plant, room, x, value))
                faults[fault and fault[0]] = True
        self.assertTrue({"form", "gust", "turn", "sum"} <= set(faults), faults)

    def test_each_fault(self):
        six = pt(6)
        plant = DRIFT
        for value, fault in [
                (BAR, None), ((BAR[0], pt(0, 0)), ("turn",)), ((BAR[0], pt(1, 0)), ("turn",)), (((), pt(0, 0)), ("sum",)),
                ((((0, (1, 1), pt(0)),), pt(0, 1)), ("sum",)), ((((0, (1, 1), pt(2)),), pt(0, 1)), ("gust", 0)),
                ((((0, (1, 2), pt(1)), (0, (1, 2), pt(-3))), pt(0, 0)), ("gust", 1)),
                ((((0, (1, 2), pt(1)), (0, (1, 2), pt(1))), pt(0, 1)), None),
                ((((1, (1, 1), pt(1)),), pt(0, 1)), ("turn",)), ((((1, (1, 1), pt(1)),), pt(1, 0)), ("sum",)),
                ((((2, (1, 1), pt(1)),), pt(0, 1)), ("form",)), ((((0, (0, 1), pt(1)),), pt(0, 1)), ("form",)),
                ((((0, (-1, 1), pt(1)),), pt(0, 1)), ("form",)), ((BAR[0], pt(0, -1)), ("form",)),
                ((BAR[0], pt(0)), ("form",)), (BAR + (0,), ("form",)), (list(BAR), ("form",))]:
            self.assertEqual(judge_bar(plant, D_GOAL, six, value), fault, value)
            self.assertEqual(bar_referee(plant, D_GOAL, six, value), fault, value)
        self.assertEqual(judge_bar(plant, D_GOAL, pt(5), BAR), ("sum",))
        self.assertIsNone(judge_bar(plant, never(1), pt(5), (((0, (1, 1), pt(0)),), pt(0, 0))))
        for odd in ODD:
            for value in (odd, (odd, pt(0, 1)), (BAR[0], odd), ((odd,), pt(0, 1)), (((odd, (1, 1), pt(1)),), pt(0, 1)),
                          (((0, odd, pt(1)),), pt(0, 1)), (((0, (1, 1), odd),), pt(0, 1))):
                self.assertEqual(judge_bar(plant, D_GOAL, six, value), bar_referee(plant, D_GOAL, six, value), value)

    def test_bare_rooms_bar_all(self):
        shut = bar(SLIDE, BARE, pt(0, 0))
        self.assertIsNone(judge_bar(SLIDE, BARE, pt(0, 0), shut))
        self.assertIsNone(a_wish(SLIDE, BARE, pt(0, 0)))

    def test_levels(self):
        found = levels(DRIFT, cube(1, -5, 5), cube(1), 3)
        for j in (1, 2, 3):
            for x in range(-12, 13):
                point = pt(Fraction(x, 2))
                self.assertIs(a_wish(DRIFT, found[j - 1], point) is not None, is_in(found[j], point))
                self.assertIs(bar(DRIFT, found[j - 1], point) is None, is_in(found[j], point))
        self.assertIsNone(a_wish(WEAK, cube(1), pt(0)))
