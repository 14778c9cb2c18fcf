import itertools
import unittest
from fractions import Fraction
from math import gcd

from everygust.errors import TooGreat
from everygust.lean import equations, lean
from everygust.levels import levels
from everygust.prices import (
    cheapest, end_price, lean_price, one_back, paying, price_levels, step_price, worth)
from everygust.regions import region_point
from everygust.weights import is_bare
from tests.helpers import (
    corners_by_trying, cube, fr, is_within, number, numbers, polygon, product_of, pt, seeded, unchanged)
from tests.plants import (
    DRIFT, SLIDE, STILL, from_numbers, gusts_of, moved, near, points_within, some_bounded, some_plant, some_standing)
from tests.test_levels import stretch
from tests.test_lots import rough
from tests.test_steps import never

SIX, ONE = rough(-6, 6), rough(-1, 1)
EFFORT = ((((0,), (1,), 0), ((0,), (-1,), 0)), (((1,), 0), ((-1,), 0)))


def worth_of(form, x):
    a, b, d = form
    return Fraction(product_of(a, x) + b, d)


def price_at(price, x):
    """The worth of a price at a point of Fractions, None beyond its room."""
    room, forms = price
    return max(worth_of(form, x) for form in forms) if forms and is_within(room, x) else None


def step_due(cost, x, u):
    return max(product_of(p, x) + product_of(q, u) + r for p, q, r in cost[0])


def end_due(cost, x):
    return max(product_of(p, x) + r for p, r in cost[1])


def paid_rows(plant, cost, price, x):
    """The rows of a wish and a number that is paid from x, with a price behind: pairs of Fractions, gust by gust."""
    room, forms = price
    m = plant[4][0]
    rows = [(list(a) + [0], b) for a, b in plant[4][1]]
    for w in gusts_of(plant):
        there = moved(plant, x, [0] * m, w)
        for r, s in room[1]:
            by_wish = [product_of(r, [number(line[j]) for line in plant[1]]) for j in range(m)]
            rows.append((by_wish + [0], s - product_of(r, there)))
        for (p, q, r), (a, b, d) in itertools.product(cost[0], forms):
            by_wish = [product_of(a, [number(line[j]) for line in plant[1]]) / d for j in range(m)]
            told = product_of(p, x) + r + worth_of((a, b, d), there)
            rows.append(([k + j for k, j in zip(q, by_wish)] + [-1], -told))
    return rows


def least_paid(plant, cost, price, x):
    """What is paid at least from x, found by trying; None if no wish is good."""
    found = corners_by_trying((plant[4][0] + 1, paid_rows(plant, cost, price, x)))
    return min(point[-1] for point in found) if found else None


def some_cost(told, n, m, steps=3, ends=3, big=3):
    def many(k):
        return tuple(told.randint(-big, big) for _ in range(k))
    return (tuple((many(n), many(m), told.randint(-big, big)) for _ in range(told.randint(1, steps))),
            tuple((many(n), told.randint(-big, big)) for _ in range(told.randint(1, ends))))


def trips(told, many, most=2):
    """Plants of one or two coordinates, with walls, a goal and a cost."""
    found = [(DRIFT, SIX, ONE, EFFORT), (STILL, cube(2, -2, 2), cube(2), some_cost(told, 2, 0)),
             (SLIDE, cube(2, -3, 3), cube(2), some_cost(told, 2, 1)), (DRIFT, SIX, rough(3, 3), EFFORT),
             (DRIFT, never(1), ONE, EFFORT), (DRIFT, SIX, never(1), EFFORT)]
    for _ in range(many):
        n = told.choice([1, 1, 2])
        plant = some_plant(told, n, told.choice([0, 1, 1, 2]) if n < most else told.randint(0, 1), told.randint(0, 1))
        walls = cube(n, -told.randint(2, 4), told.randint(2, 4))
        found.append((plant, walls, some_bounded(told, n), some_cost(told, n, plant[4][0])))
    return found


def lean_faults(price):
    """What keeps a price from being lean."""
    room, forms = price
    n = room[0]
    if room != lean(room):
        return "room"
    if is_bare(room):
        return "forms" if forms else None
    heads = [next(k for k in range(n) if a[k]) for a, _ in equations(room)]
    if not forms or list(forms) != sorted(forms):
        return "order"
    for a, b, d in forms:
        shared = 0
        for k in a + (b, d):
            shared = gcd(shared, k)
        if shared != 1 or d < 1 or any(a[k] for k in heads):
            return "form"
        # There must be a point at which all others are less.
        strict = []
        for other in forms:
            if other != (a, b, d):
                c, e, f = other
                strict.append((tuple(d * k - f * j for k, j in zip(c, a)), f * b - d * e))
        if region_point((n, room[1], tuple(strict))) is None:
            return "needless"
    return None


class TestPrices(unittest.TestCase):
    def test_of_steps_and_ends(self):
        self.assertEqual(unchanged(self, step_price, EFFORT, pt(5), pt(-2)), (2, 1))
        self.assertEqual(unchanged(self, end_price, EFFORT, pt(Fraction(-5, 2))), (5, 2))
        one = ((((2, -1), (3,), -4),), (((1, 1), -9),))
        self.assertEqual(step_price(one, pt(1, 2), pt(Fraction(1, 3))), (-3, 1))
        self.assertEqual(end_price(one, pt(1, 2)), (-6, 1))
        self.assertEqual(step_price(((((), (), 7), ((), (), 5)), (((), 1),)), (), ()), (7, 1))
        told = seeded(421)
        for _ in range(40):
            n, m = told.randint(0, 2), told.randint(0, 2)
            cost = some_cost(told, n, m)
            x, u = some_standing(told, n), some_standing(told, m)
            self.assertEqual(unchanged(self, step_price, cost, pt(*x), pt(*u)), fr(step_due(cost, x, u)))
            self.assertEqual(unchanged(self, end_price, cost, pt(*x)), fr(end_due(cost, x)))

    def test_example(self):
        found = unchanged(self, price_levels, DRIFT, SIX, ONE, EFFORT, 2)
        self.assertEqual(found, (
            (stretch(-1, 1), (((-1,), 0, 1), ((1,), 0, 1))), (stretch(-2, 2), (((-1,), 1, 1), ((1,), 1, 1))),
            (stretch(-3, 3), (((-1,), 2, 1), ((1,), 2, 1)))))
        self.assertEqual(found[1], ((1, (((-1,), 2), ((1,), 2))), (((-1,), 1, 1), ((1,), 1, 1))))
        self.assertEqual(price_levels(DRIFT, SIX, ONE, EFFORT, 0), found[:1])
        self.assertEqual(one_back(DRIFT, SIX, EFFORT, found[0]), found[1])

    def test_of_levels(self):
        told = seeded(422)
        kinds = {}
        for plant, walls, goal, cost in trips(told, 40):
            many = told.randint(0, 3)
            found = unchanged(self, price_levels, plant, walls, goal, cost, many)
            self.assertEqual(tuple(room for room, _ in found), levels(plant, walls, goal, many))
            for j, price in enumerate(found):
                self.assertIsNone(lean_faults(price), price)
                kinds[is_bare(price[0]), len(price[1]) > 1, len(equations(price[0])) if price[1] else 0] = True
                if j:
                    self.assertEqual(unchanged(self, one_back, plant, walls, cost, found[j - 1]), price)
                for x in (points_within(price[0], told, 3) + near(told, walls, 1))[:7]:
                    if j:
                        due = least_paid(plant, cost, found[j - 1], x) if is_within(walls, x) else None
                    else:
                        due = end_due(cost, x) if is_within(walls, x) and is_within(goal, x) else None
                    self.assertEqual(unchanged(self, worth, price, from_numbers(x)), None if due is None else fr(due))
        self.assertTrue({(True, False, 0), (False, True, 0), (False, False, 0), (False, False, 1)} <= set(kinds), kinds)

    def test_without_points(self):
        bare = (never(1), ())
        self.assertEqual(unchanged(self, one_back, DRIFT, SIX, EFFORT, bare), bare)
        self.assertEqual(one_back(DRIFT, never(1), EFFORT, (stretch(-1, 1), (((0,), 0, 1),))), bare)
        self.assertEqual(price_levels(DRIFT, SIX, never(1), EFFORT, 3), (bare,) * 4)
        self.assertEqual(price_levels(DRIFT, never(1), ONE, EFFORT, 2), (bare,) * 3)
        self.assertIsNone(worth(bare, pt(0)))
        self.assertEqual(unchanged(self, paying, DRIFT, bare, EFFORT, pt(0), (9, 1)), never(1))
        self.assertIsNone(unchanged(self, cheapest, DRIFT, bare, EFFORT, pt(0)))

    def test_worth(self):
        price = (stretch(-2, 2), (((-1,), 1, 1), ((1,), 1, 2)))
        for x, due in ((-2, (3, 1)), (2, (3, 2)), (Fraction(1, 3), (2, 3)), (Fraction(5, 2), None), (-3, None)):
            self.assertEqual(unchanged(self, worth, price, pt(x)), due)


class TestLean(unittest.TestCase):
    def test_by_hand(self):
        room = stretch(-2, 2)
        for forms, due in [
                ([((1,), 0, 1), ((1,), 0, 1)], (((1,), 0, 1),)), ([((2,), 4, 2), ((1,), 2, 1)], (((1,), 2, 1),)),
                ([((1,), 0, 1), ((-1,), 0, 1), ((0,), 0, 1)], (((-1,), 0, 1), ((1,), 0, 1))),
                ([((1,), 0, 1), ((-1,), 0, 1), ((0,), 1, 1)], (((-1,), 0, 1), ((0,), 1, 1), ((1,), 0, 1))),
                ([((1,), 0, 1), ((3,), -4, 1)], (((1,), 0, 1),)),
                ([((1,), 0, 1), ((3,), -3, 1)], (((1,), 0, 1), ((3,), -3, 1))),
                ([((1,), 0, 3), ((0,), -9, 1)], (((1,), 0, 3),)), ([((0,), -6, 4)], (((0,), -3, 2),))]:
            self.assertEqual(unchanged(self, lean_price, room, tuple(forms)), (room, due))
            self.assertEqual(lean_price(rough(-2, 2), list(forms)), (room, due))
        # In a flat room forms are told without the heads' columns; here x is y + 1.
        flat = (2, cube(2)[1] + (((1, -1), 1), ((-1, 1), -1)))
        self.assertEqual(lean_price(flat, (((1, 0), 0, 1),)), (lean(flat), (((0, 1), 1, 1),)))
        self.assertEqual(lean_price(flat, (((1, 0), 0, 1), ((0, 1), 1, 1), ((2, -1), -1, 1))),
            (lean(flat), (((0, 1), 1, 1),)))
        self.assertEqual(lean_price(cube(2, 1, 1), (((3, 5), 1, 2), ((0, 0), 5, 2))),
            (lean(cube(2, 1, 1)), (((0, 0), 9, 2),)))
        self.assertEqual(lean_price(never(2), ()), (never(2), ()))
        self.assertEqual(lean_price(rough(1, 0), (((1,), 0, 1),)), (never(1), ()))
        self.assertEqual(lean_price((0, ()), (((), 3, 2), ((), 4, 2))), ((0, ()), (((), 2, 1),)))

    def test_what_holds(self):
        told = seeded(423)
        for _ in range(40):
            n = told.randint(1, 2)
            room = some_bounded(told, n, False)
            forms = tuple((tuple(told.randint(-3, 3) for _ in range(n)), told.randint(-4, 4), told.randint(1, 3))
                          for _ in range(told.randint(1, 6)))
            found = unchanged(self, lean_price, room, forms)
            self.assertIsNone(lean_faults(found))
            self.assertEqual(found[0], lean(room))
            for x in points_within(room, told, 6):
                self.assertEqual(price_at(found, x), max(worth_of(form, x) for form in forms))
            if found[1]:
                # The same worths, told with more forms, make the same price.
                more = tuple((tuple(2 * k for k in a), 2 * b, 2 * d) for a, b, d in found[1]) + forms + found[1]
                self.assertEqual(lean_price(room, more), found)


class TestPaying(unittest.TestCase):
    def test_by_hand(self):
        price = price_levels(DRIFT, SIX, ONE, EFFORT, 1)
        self.assertEqual(unchanged(self, paying, DRIFT, price[0], EFFORT, pt(2), (3, 1)), stretch(-2, -2))
        self.assertEqual(paying(DRIFT, price[0], EFFORT, pt(2), (5, 2)), never(1))
        self.assertEqual(paying(DRIFT, price[0], EFFORT, pt(3), (99, 1)), never(1))
        self.assertEqual(paying(DRIFT, price[1], EFFORT, pt(0), (3, 1)), stretch(Fraction(-1, 2), Fraction(1, 2)))
        self.assertEqual(paying(DRIFT, price[1], EFFORT, pt(0), (2, 1)), stretch(0, 0))
        self.assertEqual(paying(DRIFT, price[1], EFFORT, pt(0), fr(199, 100)), never(1))
        self.assertEqual(cheapest(DRIFT, price[1], EFFORT, pt(0)), pt(0))
        self.assertEqual(unchanged(self, cheapest, DRIFT, price[0], EFFORT, pt(2)), pt(-2))
        self.assertIsNone(cheapest(DRIFT, price[0], EFFORT, pt(3)))
        still = price_levels(STILL, cube(2), cube(2), ((((1, 0), (), 0),), (((0, 1), 2),)), 1)
        self.assertEqual(paying(STILL, still[0], ((((1, 0), (), 0),), (((0, 1), 2),)), pt(1, 0), (3, 1)), (0, ()))
        self.assertEqual(paying(STILL, still[0], ((((1, 0), (), 0),), (((0, 1), 2),)), pt(1, 0), (2, 1)),
            (0, (((), -1),)))
        self.assertEqual(cheapest(STILL, still[0], ((((1, 0), (), 0),), (((0, 1), 2),)), pt(1, 0)), ())

    def test_by_standings(self):
        told = seeded(424)
        kinds = {}
        for plant, walls, goal, cost in trips(told, 30):
            below = price_levels(plant, walls, goal, cost, 1)[told.randint(0, 1)]
            m = plant[4][0]
            for x in (points_within(walls, told, 4) + points_within(below[0], told, 2))[-6:]:
                if not is_within(walls, x):
                    continue
                least = least_paid(plant, cost, below, x)
                wish = unchanged(self, cheapest, plant, below, cost, from_numbers(x))
                self.assertIs(wish is None, least is None)
                if wish is not None:
                    self.assertEqual(self.paid(plant, cost, below, x, numbers(wish)), least)
                for t in ([] if least is None else [least, least - Fraction(1, 7),
                        least + Fraction(2, 3)]) + [Fraction(5)]:
                    found = unchanged(self, paying, plant, below, cost, from_numbers(x), fr(t))
                    self.assertEqual(found, lean(found))
                    self.assertIs(is_bare(found), least is None or least > t)
                    kinds[is_bare(found)] = True
                    for u in points_within(found, told, 2)[:4] + points_within(plant[4], told,
                            3)[:4] + [some_standing(told, m, 1)]:
                        price = self.paid(plant, cost, below, x, u) if is_within(plant[4], u) else None
                        self.assertEqual(is_within(found, u), price is not None and price <= t)
        self.assertEqual(len(kinds), 2)

    def paid(self, plant, cost, price, x, u):
        """What a wish costs with a price behind it, whatever gust blows; None if a gust leads out."""
        told = [price_at(price, moved(plant, x, u, w)) for w in gusts_of(plant)]
        return None if None in told else step_due(cost, x, u) + max(told)


class TestWhatHolds(unittest.TestCase):
    """S10.7, by standings."""

    def priced(self, plant, walls, goal, cost, many):
        return price_levels(plant, walls, goal, cost, many)[-1]

    def test_costs(self):
        told = seeded(425)
        for plant, walls, goal, cost in trips(told, 15):
            many, g, h = told.randint(1, 2), told.randint(-3, 3), told.randint(2, 3)
            steps, ends = cost
            price = self.priced(plant, walls, goal, cost, many)
            dearer = (tuple((p, q, r + g) for p, q, r in steps), ends)
            often = (tuple((tuple(h * k for k in p), tuple(h * k for k in q), h * r) for p, q, r in steps),
                     tuple((tuple(h * k for k in p), h * r) for p, r in ends))
            # A triple that is less everywhere, and ends that are, change nothing.
            p, q, r = steps[0]
            more = (steps + ((p, q, r - 1),), ends + ((ends[0][0], ends[0][1] - 2),))
            self.assertEqual(self.priced(plant, walls, goal, more, many), price)
            one, other = [self.priced(plant, walls, goal, told_cost, many) for told_cost in (dearer, often)]
            for x in points_within(price[0], told, 4):
                due = price_at(price, x)
                self.assertEqual(price_at(one, x), due + many * g)
                self.assertEqual(price_at(other, x), due * h)

    def test_means_and_grown_rooms(self):
        told = seeded(426)
        for plant, walls, goal, cost in trips(told, 15):
            many = told.randint(1, 2)
            price = self.priced(plant, walls, goal, cost, many)
            points = points_within(price[0], told, 3)
            for x, y in zip(points, points[1:]):
                middle = [(a + b) / 2 for a, b in zip(x, y)]
                self.assertLessEqual(price_at(price, middle), (price_at(price, x) + price_at(price, y)) / 2)
            fewer = plant[:5] + ((plant[5][0], self.at_point(gusts_of(plant)[0])),)
            wider = (goal[0], tuple((a, b + 1) for a, b in goal[1]))
            more = plant[:4] + ((plant[4][0], tuple((a, b + 1) for a, b in plant[4][1])),) + plant[5:]
            dearer = (tuple((p, q, r + told.randint(0, 2)) for p, q, r in cost[0]) + cost[0],
                cost[1] + ((cost[1][0][0], cost[1][0][1] + 1),))
            ahead = self.priced(more, walls, goal, cost, many)
            dear = self.priced(plant, walls, goal, dearer, many)
            some = self.priced(fewer, walls, goal, cost, many)
            wide = self.priced(plant, walls, wider, cost, many)
            for x in points:
                self.assertLessEqual(price_at(some, x), price_at(price, x))
                self.assertLessEqual(price_at(ahead, x), price_at(price, x))
                self.assertLessEqual(price_at(price, x), price_at(dear, x))
                if is_within(wide[0], x):
                    self.assertLessEqual(price_at(wide, x), price_at(price, x))
                self.assertTrue(is_within(wide[0], x))

    def at_point(self, point):
        rows = []
        for k, x in enumerate(point):
            x = Fraction(x)
            a = tuple(x.denominator if j == k else 0 for j in range(len(point)))
            rows += [(a, x.numerator), (tuple(-v for v in a), -x.numerator)]
        return tuple(rows)

    def test_in_two_parts(self):
        # The price of level i + j is what comes of j steps to level i with its price at the end.
        told = seeded(427)
        for plant, walls, goal, cost in trips(told, 12):
            found = price_levels(plant, walls, goal, cost, 3)
            middle = found[1]
            if not middle[1] or any(d != 1 for _, _, d in middle[1]):
                continue
            ends = tuple((a, b) for a, b, _ in middle[1])
            again = price_levels(plant, walls, middle[0], (cost[0], ends), 2)
            self.assertEqual(again, found[1:])

    def test_one_gust(self):
        # With one gust the price is the least one of rows of wishes told ahead: here tried among halves.
        plant = DRIFT[:5] + (rough(1, 1),)
        cost = ((((1,), (2,), 0), ((0,), (-1,), 1)), (((2,), 0), ((-1,), 0)))
        price = self.priced(plant, SIX, ONE, cost, 2)
        for x in range(-3, 2):
            best = []
            for u, v in itertools.product([Fraction(k, 4) for k in range(-8, 9)], repeat=2):
                y = x + u + 1
                z = y + v + 1
                if all(is_within(SIX, [k]) for k in (x, y, z)) and is_within(ONE, [z]):
                    best.append(step_due(cost, [x], [u]) + step_due(cost, [y], [v]) + end_due(cost, [z]))
            due = price_at(price, [Fraction(x)])
            self.assertIs(due is None, not best)
            if best:
                self.assertLessEqual(due, min(best))
                self.assertLess(min(best) - due, 1)


class TestSurePrice(unittest.TestCase):
    def test_wish_by_wish(self):
        # A helm that takes cheapest wishes pays no more than the price, and some gusts make it pay just that.
        told = seeded(428)
        for plant, walls, goal, cost in trips(told, 15):
            found = price_levels(plant, walls, goal, cost, 2)
            for x in points_within(found[2][0], told, 2)[:3]:
                self.assertEqual(self.worst(plant, cost, found, x, 2), price_at(found[2], x))

    def worst(self, plant, cost, found, x, left):
        if left == 0:
            return end_due(cost, x)
        u = numbers(cheapest(plant, found[left - 1], cost, from_numbers(x)))
        behind = [self.worst(plant, cost, found, moved(plant, x, u, w), left - 1) for w in gusts_of(plant)]
        return step_due(cost, x, u) + max(behind)


class TestTooGreat(unittest.TestCase):
    def test_forms(self):
        # As many forms as a room has rows beside are told: 78 forms and 2 rows, and one more.
        def bowl(many):
            return tuple(((2 * t + 1,), -t * (t + 1), 1) for t in range(many))
        room = rough(-1, 200)
        self.assertEqual(len(lean_price(room, bowl(78))[1]), 78)
        self.assertRaises(TooGreat, lean_price, room, bowl(79))
        price = lean_price(room, bowl(78))
        stay = ((pt(1),), (pt(0),), (pt(0),), pt(0), rough(0, 0), rough(0, 0))
        free = ((((0,), (0,), 0),), (((0,), 0),))
        self.assertEqual(one_back(stay, room, free, price), price)
        # Two prices of steps, the one from 0 on, make one more form of the 78.
        bent = ((((0,), (0,), 0), ((-1,), (0,), 0)), (((0,), 0),))
        self.assertRaises(TooGreat, one_back, stay, room, bent, price)
        many = tuple(((2 * t + 1,), -t * (t + 1)) for t in range(79))
        self.assertRaises(TooGreat, price_levels, stay, room, room, (free[0], many), 0)
        self.assertEqual(len(price_levels(stay, room, room, (free[0], many[:78]), 2)[2][1]), 78)

    def test_levels_and_paying(self):
        self.assertRaises(TooGreat, price_levels, STILL, polygon(81), polygon(81), ((((0, 0), (), 0),), (((0, 0), 0),)),
            0)
        free = ((((0, 0), (), 0),), (((0, 0), 0),))
        # 80 rows are no more to be told with the one form beside them.
        self.assertRaises(TooGreat, price_levels, STILL, polygon(80), polygon(80), free, 0)
        self.assertEqual(len(price_levels(STILL, polygon(79), polygon(79), free, 1)[1][0][1]), 79)
        # What is paid depends on a wish of two coordinates by many rows.
        push = ((pt(1, 0), pt(0, 1)), (pt(1, 0), pt(0, 1)), ((), ()), pt(0, 0), cube(2, -9999, 9999), (0, ()))
        price = (lean(polygon(80)), (((0, 0), 0, 1),))
        self.assertEqual(len(paying(push, price, ((((0, 0), (0, 0), 0),), (((0, 0), 0),)), pt(0, 0), (0, 1))[1]), 80)
        # A cheap wish is far from one corner, which is cut off.
        steep = ((((0, 0), (-2, -2), 0),), (((0, 0), 0),))
        self.assertEqual(len(paying(push, price, steep, pt(0, 0), (0, 1))[1]), 80)
        self.assertRaises(TooGreat, paying, push, price, steep, pt(0, 0), (-1, 1))
