import unittest
from fractions import Fraction

from everygust.corners import corners
from everygust.errors import Bare, TooGreat, Unbounded
from everygust.lean import lean
from everygust.rows import joined
from everygust.sights import (
    giving, judge_parted, looks_of, may_give, parted, right_sight, spread, spread_pair, told_apart)
from everygust.weights import is_bare
from tests import referees
from tests.helpers import (
    ODD, corners_by_trying, cube, fr, is_within, number, numbers, polygon, product_of, pt, seeded, unchanged)
from tests.plants import from_numbers, near, points_within, some_bounded, some_standing
from tests.sighted import (
    BLINDFOLD, GLANCE, HALF, is_given, is_weights, parts_of, seen_by, slip_of, some_sight, weighed)
from tests.test_levels import stretch
from tests.test_lots import rough
from tests.test_steps import never


def rooms(told, many):
    """Sights with two rooms of their n."""
    found = [(GLANCE, rough(-2, 2), rough(3, 4)), (GLANCE, rough(-2, 2), rough(4, 5)),
        (BLINDFOLD, rough(0, 1), rough(8, 9)),
             (((pt(1, 0),), (1, (((1,), 0), ((-1,), 0)))), cube(2), cube(2, 1, 3))]
    for _ in range(many):
        n = told.randint(1, 3)
        shift = [told.randint(-3, 3) for _ in range(n)]
        one, other = some_bounded(told, n), some_bounded(told, n)
        other = (n, tuple((a, b + sum(x * y for x, y in zip(a, shift))) for a, b in other[1]))
        found.append((some_sight(told, n, told.randint(0, 3)), one, other))
    return found


def looks_by_trying(sight, room):
    """The sums of what corners give and of corners of slips."""
    return {tuple(a + b for a, b in zip(seen_by(sight, x), v))
            for x in corners_by_trying(room) for v in corners_by_trying(sight[1])}


def parted_referee(sight, room, other, value):
    n, s = room[0], len(sight[0])
    if referees.told(value, "both", 4) and all(referees.is_list_of(x, n)
            for x in value[1:3]) and referees.is_list_of(value[3], s):
        x, z, y = [numbers(one) for one in value[1:]]
        found = [("room",)] * (not is_within(room, x)) + [("other",)] * (not is_within(other, z))
        return referees.first(found + [("look",)] * (not is_given(sight, x, y) or not is_given(sight, z, y)))
    if not referees.told(value, "apart", 5) or not all(
            is_weights(one, weights) for one, weights in zip((room, other, sight[1], sight[1]), value[1:])):
        return ("form",)
    _, ons, others, seens, lates = value

    def every(t):
        x, z, y = t[:n], t[n:2 * n], t[2 * n:]
        return (weighed(room, x, ons) + weighed(other, z, others) + weighed(sight[1], slip_of(sight, x, y), seens)
                + weighed(sight[1], slip_of(sight, z, y), lates))
    alone, unknown = parts_of(every, 2 * n + s)
    return ("sum",) if any(unknown) or alone < 1 else None


class TestSights(unittest.TestCase):
    def test_right(self):
        for sight, due in [(GLANCE, None), (BLINDFOLD, None), (((pt(1),), never(1)), "bare"),
                (((pt(1),), (1, ())), "far"),
                           (((), (0, (((), -1),))), "bare"), (((pt(1),), (1, (((1,), 0),))), "far"),
                           (((pt(1),), (1, (((1,), 0), ((-1,), -1)))), "bare"), (((pt(), pt()), cube(2)), None),
                           (((pt(1), pt(2)), (2, (((1, 0), 1), ((-1, 0), -2)))), "bare")]:
            self.assertEqual(unchanged(self, right_sight, sight), due)

    def test_may_give(self):
        for x, y, due in [(0, Fraction(1, 2), True), (0, Fraction(3, 5), False), (2, Fraction(3, 2), True),
                (2, 1, False)]:
            self.assertIs(unchanged(self, may_give, GLANCE, pt(x), pt(y)), due)
        self.assertIs(may_give(BLINDFOLD, pt(9), ()), True)
        told = seeded(451)
        kinds = {}
        for sight, room, _ in rooms(told, 40):
            for x in points_within(room, told, 2):
                y = [k + told.choice([-1, 0, Fraction(1, 2), 1]) for k in seen_by(sight, x)]
                due = is_given(sight, x, y)
                self.assertIs(unchanged(self, may_give, sight, from_numbers(x), from_numbers(y)), due)
                kinds[due] = True
        self.assertEqual(len(kinds), 2)

    def test_looks_and_giving(self):
        self.assertEqual(unchanged(self, looks_of, GLANCE, rough(-2, 2)), stretch(Fraction(-5, 2), Fraction(5, 2)))
        self.assertEqual(looks_of(BLINDFOLD, rough(-2, 2)), (0, ()))
        self.assertEqual(unchanged(self, giving, GLANCE, rough(-2, 2), pt(2)), stretch(Fraction(3, 2), 2))
        self.assertEqual(giving(GLANCE, rough(-2, 2), pt(3)), never(1))
        self.assertEqual(giving(BLINDFOLD, rough(-2, 2), ()), stretch(-2, 2))
        told = seeded(452)
        for sight, room, _ in rooms(told, 30):
            looks = unchanged(self, looks_of, sight, room)
            self.assertEqual(looks, lean(looks))
            tried = looks_by_trying(sight, room)
            self.assertTrue(all(is_within(looks, y) for y in tried))
            self.assertTrue({tuple(numbers(y)) for y in corners(looks)} <= tried)
            for y in near(told, looks, 2)[:5]:
                found = unchanged(self, giving, sight, room, from_numbers(y))
                self.assertEqual(found, lean(found))
                self.assertIs(is_bare(found), not is_within(looks, y))
                for x in points_within(found, told, 2) + near(told, room, 2)[:5]:
                    self.assertEqual(is_within(found, x), is_within(room, x) and is_given(sight, x, y))

    def test_told_apart(self):
        for x, z, due in [(0, 1, False), (0, Fraction(5, 4), True), (0, 0, False), (3, 1, True), (0, -1, False)]:
            self.assertIs(unchanged(self, told_apart, GLANCE, pt(x), pt(z)), due)
        self.assertIs(told_apart(BLINDFOLD, pt(0), pt(99)), False)
        told = seeded(453)
        kinds = {}
        for sight, room, _ in rooms(told, 40):
            for _ in range(4):
                x, z = some_standing(told, room[0], 1), some_standing(told, room[0], 1)
                # They may give one look if a slip less another one is the difference of what they give.
                rows = []
                for point in (x, z):
                    rows += [(a, b + product_of(a, seen_by(sight, point))) for a, b in sight[1][1]]
                due = not corners_by_trying((len(sight[0]), rows))
                self.assertIs(unchanged(self, told_apart, sight, from_numbers(x), from_numbers(z)), due)
                kinds[due] = True
        self.assertEqual(len(kinds), 2)


class TestParted(unittest.TestCase):
    def test_by_hand(self):
        self.assertEqual(unchanged(self, parted, GLANCE, rough(-2, 2), rough(3, 4)),
            ("both", pt(2), pt(3), pt(Fraction(5, 2))))
        self.assertEqual(parted(GLANCE, rough(-2, 2), rough(4, 5))[0], "apart")
        self.assertEqual(parted(BLINDFOLD, rough(-2, 2), rough(4, 5))[0], "both")

    def test_all_sorts(self):
        told = seeded(454)
        words, faults = {}, {}
        for sight, room, other in rooms(told, 50):
            value = unchanged(self, parted, sight, room, other)
            common = is_bare(joined(looks_of(sight, room), looks_of(sight, other)))
            self.assertEqual(value[0], "apart" if common else "both")
            words[value[0]] = True
            self.assertIsNone(judge_parted(sight, room, other, value))
            self.assertIsNone(parted_referee(sight, room, other, value))
            for _ in range(5):
                changed = referees.changed(told, value, ODD)
                fault = judge_parted(sight, room, other, changed)
                self.assertEqual(fault, parted_referee(sight, room, other, changed), changed)
                faults[fault and fault[0]] = True
        self.assertEqual(len(words), 2)
        self.assertTrue({"form", "room", "other", "look", "sum"} <= set(faults), faults)

    def judged(self, value, fault):
        for judge in (judge_parted, parted_referee):
            self.assertEqual(judge(GLANCE, rough(-2, 2), rough(4, 5), value), fault, value)

    def test_each_fault(self):
        good = ("apart", pt(1, 0), pt(0, 1), pt(0, Fraction(1, 2)), pt(Fraction(1, 2), 0))
        self.judged(good, None)
        for value, fault in [
                (("apart", pt(1, 0), pt(0, 1), pt(0, Fraction(1, 2)), pt(0, 0)), ("sum",)),
                (("apart", pt(2, 1), pt(0, 1), pt(0, Fraction(1, 2)), pt(Fraction(1, 2), 0)), ("sum",)),
                (("apart", pt(Fraction(1, 2), 0), pt(0, Fraction(1, 2)), pt(0, Fraction(1, 4)), pt(Fraction(1, 4), 0)),
                ("sum",)),
                (("apart", pt(-1, 0)) + good[2:], ("form",)), (("apart", pt(1)) + good[2:], ("form",)),
                (good[:4], ("form",)),
                (good + ((),), ("form",)), (("apart", pt(1, 0), pt(0, 1, 0)) + good[3:], ("form",)),
                (list(good), ("form",)),
                (("both", pt(3), pt(6), pt(9)), ("room",)), (("both", pt(2), pt(6), pt(9)), ("other",)),
                (("both", pt(2), pt(4), pt(Fraction(5, 2))), ("look",)),
                (("both", pt(2), pt(4), pt(Fraction(7, 2))), ("look",)),
                (("both", pt(2), pt(4), pt(3)), ("look",)), (("both", pt(2), pt(4), ()), ("form",)),
                (("both", pt(2), pt(4, 4), pt(3)), ("form",)), (("none",), ("form",))]:
            self.judged(value, fault)
        for odd in ODD:
            for value in [odd, ("both", odd, pt(4), pt(3)), ("both", pt(2), odd, pt(3)),
                    ("both", pt(2), pt(4), odd)] + [
                    good[:k] + (odd,) + good[k + 1:] for k in range(1, 5)]:
                self.judged(value, parted_referee(GLANCE, rough(-2, 2), rough(4, 5), value))


class TestSpread(unittest.TestCase):
    def test_by_hand(self):
        self.assertEqual(unchanged(self, spread, GLANCE, rough(-2, 2), pt(1)), (1, 1))
        self.assertEqual(spread(GLANCE, rough(-2, 2), pt(Fraction(-2, 3))), (2, 3))
        self.assertEqual(spread(BLINDFOLD, rough(-2, 2), pt(3)), (12, 1))
        self.assertEqual(spread(GLANCE, rough(0, 0), pt(3)), (0, 1))
        exact = ((pt(1, 1),), (1, (((1,), 0), ((-1,), 0))))
        self.assertEqual(spread(exact, cube(2), pt(2, 2)), (0, 1))
        self.assertEqual(spread(exact, cube(2), pt(1, 0)), (2, 1))
        self.assertEqual(spread(exact, cube(2), pt(1, -1)), (4, 1))

    def test_what_holds(self):
        told = seeded(455)
        for sight, room, _ in rooms(told, 40):
            n = room[0]
            form = from_numbers(some_standing(told, n, 1))
            value = number(unchanged(self, spread, sight, room, form))
            x, z, y = [numbers(one) for one in unchanged(self, spread_pair, sight, room, form)]
            self.assertTrue(is_within(room, x) and is_within(room, z) and is_given(sight, x, y)
                and is_given(sight, z, y))
            away = [a - b for a, b in zip(x, z)]
            self.assertEqual(product_of(numbers(form), away), value)
            worths = [product_of(numbers(form), one) for one in corners_by_trying(room)]
            self.assertTrue(0 <= value <= max(worths) - min(worths))
            if not sight[0]:
                self.assertEqual(value, max(worths) - min(worths))
            if n == 1 and len(sight[0]) == 1:
                rows = [((1, 0), corners_by_trying(room)[-1][0]), ((-1, 0), -corners_by_trying(room)[0][0])]
                rows += [((0,) + a[:1], b) for a, b in rows]
                ends = [v[0] for v in corners_by_trying(sight[1])]
                step = number(sight[0][0][0])
                rows += [((step, -step), ends[-1] - ends[0]), ((-step, step), ends[-1] - ends[0])]
                due = max(number(form[0]) * (a - b) for a, b in corners_by_trying((2, rows)))
                self.assertEqual(value, due)
            for _ in range(6):
                one, other = told.choice(points_within(room, told, 3)), told.choice(points_within(room, told, 3))
                if not told_apart(sight, from_numbers(one), from_numbers(other)):
                    self.assertLessEqual(product_of(numbers(form), [a - b for a, b in zip(one, other)]), value)


class TestErrors(unittest.TestCase):
    def test_rooms(self):
        bare, far, good = never(1), (1, (((1,), 0),)), rough(0, 1)
        for room, error in ((bare, Bare), (far, Unbounded), ((1, ()), Unbounded)):
            self.assertRaises(error, looks_of, GLANCE, room)
            self.assertRaises(error, giving, GLANCE, room, pt(0))
            self.assertRaises(error, spread, GLANCE, room, pt(1))
            self.assertRaises(error, spread_pair, GLANCE, room, pt(1))
            for other in (bare, far, good):
                self.assertRaises(error, parted, GLANCE, room, other)
                self.assertRaises(error, judge_parted, GLANCE, room, other, None)
            self.assertRaises(error, parted, GLANCE, good, room)
            self.assertRaises(error, judge_parted, GLANCE, good, room, None)

    def test_too_great(self):
        plain = ((pt(1, 0), pt(0, 1)), cube(2, 0, 0))
        self.assertEqual(looks_of(plain, polygon(80)), lean(polygon(80)))
        self.assertRaises(TooGreat, looks_of, plain, polygon(81))
        self.assertRaises(TooGreat, looks_of, ((pt(1, 0), pt(0, 1)), cube(2)), polygon(79))
        self.assertEqual(len(giving(BLINDFOLD, polygon(80), ())[1]), 80)
        self.assertRaises(TooGreat, giving, BLINDFOLD, polygon(81), ())
        self.assertEqual(giving(plain, polygon(81), pt(1, 1)), lean(cube(2, 1, 1)))
        self.assertEqual(spread(BLINDFOLD, polygon(99), pt(1, 0)), (98, 1))
        self.assertEqual(parted(BLINDFOLD, polygon(99), polygon(99))[0], "both")
        self.assertRaises(Unbounded, giving, BLINDFOLD, (2, polygon(81)[1][:-1]), ())
