import itertools
import unittest
from fractions import Fraction

from everygust.errors import TooGreat, Unbounded
from everygust.hulls import hull
from everygust.images import added, image, shrunk
from everygust.lean import lean
from everygust.rows import boxed, is_in, joined
from everygust.steps import (
    back, back_by, back_mixed, come, come_by, greatest_gust, landing, late_back, late_landing, leads, leads_out)
from everygust.weights import are_alike, is_bare, is_bounded, is_inside, plant_fault
from tests.helpers import (
    corners_by_trying, cube, fr, is_within, number, numbers, polygon, product_of, pt, seeded, slanted, unchanged)
from tests.plants import (
    DRIFT, NEAR_GOAL, SLIDE, STILL, WEAK, from_numbers, gusts_of, has_points, is_back, is_late_back, moved, near,
    outs, some_bounded, some_number, some_plant, some_standing, wishes_of)
from tests.test_weights import BARE, WEDGE


def never(n):
    return (n, (((0,) * n, -1),))


def one_wish(plant, u):
    """The plant with one wish alone."""
    return plant[:4] + (boxed(pt(*u), pt(*u)), plant[5])


def one_gust(plant, w):
    return plant[:5] + (boxed(pt(*w), pt(*w)),)


def plants(told, many):
    """Right plants with rooms of their n, some bare, some flat."""
    found = [(DRIFT, NEAR_GOAL), (WEAK, NEAR_GOAL), (SLIDE, cube(2, -2, 2)), (STILL, cube(2)), (SLIDE, never(2))]
    for _ in range(many):
        plant = some_plant(told)
        room = some_bounded(told, len(plant[0]), False)
        if told.random() < 0.5:
            room = (room[0], tuple((a, 3 * b + 3) for a, b in room[1]))
        found.append((plant, room))
    return found


class TestComing(unittest.TestCase):
    def test_by_hand(self):
        self.assertEqual(unchanged(self, come_by, DRIFT, NEAR_GOAL, pt(2)), (1, (((-1,), 0), ((1,), 4))))
        self.assertEqual(unchanged(self, come, DRIFT, NEAR_GOAL), (1, (((-1,), 4), ((1,), 4))))
        self.assertEqual(come_by(DRIFT, NEAR_GOAL, pt(9)), (1, (((-1,), -7), ((1,), 11))))
        self.assertEqual(come(DRIFT, never(1)), never(1))
        self.assertEqual(come_by(DRIFT, never(1), pt(0)), never(1))
        self.assertEqual(come(STILL, cube(2)), lean(cube(2)))
        self.assertEqual(come_by(STILL, cube(2), ()), lean(cube(2)))

    def test_by_corners(self):
        told = seeded(221)
        for plant, room in plants(told, 50):
            self.assertIsNone(plant_fault(plant))
            n, ends = len(plant[0]), corners_by_trying(room)
            u = some_standing(told, plant[4][0], 2)
            points = {tuple(moved(plant, x, u, w)) for x in ends for w in gusts_of(plant)}
            self.assertEqual(unchanged(self, come_by, plant, room, pt(*u)), hull(n, [pt(*p) for p in sorted(points)]))
            points = {tuple(moved(plant, x, v, w)) for x in ends for v in wishes_of(plant) for w in gusts_of(plant)}
            self.assertEqual(unchanged(self, come, plant, room), hull(n, [pt(*p) for p in sorted(points)]))


class TestGreatestGust(unittest.TestCase):
    def test_by_hand(self):
        self.assertEqual(unchanged(self, greatest_gust, DRIFT, pt(-3)), ((3, 1), pt(-1)))
        self.assertEqual(greatest_gust(DRIFT, pt(0)), ((0, 1), pt(-1)))
        self.assertEqual(greatest_gust(STILL, pt(5, 7)), ((0, 1), ()))
        tied = SLIDE[:2] + ((pt(1, 0), pt(0, 1)), pt(0, 0), cube(1), cube(2))
        self.assertEqual(greatest_gust(tied, pt(0, 2)), ((2, 1), pt(-1, 1)))
        self.assertEqual(greatest_gust(tied, pt(-2, 0)), ((2, 1), pt(-1, -1)))
        self.assertEqual(greatest_gust(tied, pt(Fraction(1, 2), Fraction(-1, 3))), ((5, 6), pt(1, -1)))

    def test_by_corners(self):
        told = seeded(222)
        for plant, _ in plants(told, 60):
            n, k = len(plant[0]), plant[5][0]
            form = [some_number(told) for _ in range(n)]
            blown = [product_of(form, [number(line[j]) for line in plant[2]]) for j in range(k)]
            best = max(product_of(blown, w) for w in gusts_of(plant))
            first = [w for w in gusts_of(plant) if product_of(blown, w) == best][0]
            self.assertEqual(greatest_gust(plant, pt(*form)), (fr(best), from_numbers(first)))


class TestBack(unittest.TestCase):
    def test_by_hand(self):
        self.assertEqual(unchanged(self, back_by, DRIFT, NEAR_GOAL, pt(2)), (1, (((-1,), 2), ((1,), -2))))
        self.assertEqual(unchanged(self, back, DRIFT, NEAR_GOAL), (1, (((-1,), 2), ((1,), 2))))
        self.assertEqual(unchanged(self, back, WEAK, NEAR_GOAL), never(1))
        self.assertEqual(unchanged(self, late_back, WEAK, NEAR_GOAL), (1, (((-1,), 0), ((1,), 0))))
        self.assertEqual(back_by(DRIFT, NEAR_GOAL, pt(7)), (1, (((-1,), 7), ((1,), -7))))
        for call in (back, late_back, landing, late_landing):
            self.assertEqual(call(DRIFT, never(1)), never(1))
        self.assertEqual(back(STILL, cube(2)), lean(cube(2)))

    def test_standings(self):
        told = seeded(223)
        words = {}
        for plant, room in plants(told, 25):
            n, m = len(plant[0]), plant[4][0]
            u = some_standing(told, m, 1)
            mixed = some_bounded(told, n + m, False)
            mixed = (n + m, tuple((a, 2 * b + 1) for a, b in mixed[1]))
            found = {
                "by": unchanged(self, back_by, plant, room, pt(*u)), "back": unchanged(self, back, plant, room),
                "late": unchanged(self, late_back, plant, room),
                "mixed": unchanged(self, back_mixed, plant, room, mixed)}
            standings = [some_standing(told, n) for _ in range(4)]
            for one in found.values():
                self.assertEqual(one, lean(one))
                standings += near(told, one, 3)[::3] if is_bounded(one) else []
            for x in standings:
                due = {"by": not outs(plant, x, u, room), "back": is_back(plant, x, room),
                       "late": is_late_back(plant, x, room), "mixed": self.is_mixed(plant, x, room, mixed)}
                for word, one in found.items():
                    self.assertEqual(is_within(one, x), due[word], (word, plant, room, x))
                    words[word, due[word]] = True
        self.assertEqual(len(words), 8)

    def is_mixed(self, plant, x, room, mixed):
        n, m = len(x), plant[4][0]
        rows = []
        for a, b in plant[4][1]:
            rows.append((a, b))
        for a, b in mixed[1]:
            rows.append((a[n:], b - product_of(a[:n], x)))
        for r, s in room[1]:
            by_wish = [product_of(r, [number(line[j]) for line in plant[1]]) for j in range(m)]
            rows.extend([(by_wish, s - product_of(r, moved(plant, x, [0] * m, w))) for w in gusts_of(plant)])
        return has_points(m, rows)

    def test_landings(self):
        told = seeded(224)
        for plant, room in plants(told, 40):
            still = tuple((0, 1) for _ in plant[0])
            blown = image(plant[2], still, plant[5])
            turned = tuple(tuple((-p, q) for p, q in line) for line in plant[1])
            wished = image(turned, still, plant[4])
            early = unchanged(self, landing, plant, room)
            late = unchanged(self, late_landing, plant, room)
            self.assertEqual(early, added(wished, shrunk(room, blown)))
            self.assertEqual(late, shrunk(added(room, wished), blown))
            for _ in range(3):
                x = some_standing(told, len(still))
                taken = pt(*moved(plant, x, [0] * plant[4][0], [0] * plant[5][0]))
                self.assertIs(is_in(back(plant, room), pt(*x)), is_in(early, taken))
                self.assertIs(is_in(late_back(plant, room), pt(*x)), is_in(late, taken))

    def test_what_holds(self):
        told = seeded(225)
        for plant, room in plants(told, 40):
            n, m = len(plant[0]), plant[4][0]
            other = some_bounded(told, n, False)
            u = pt(*some_standing(told, m, 1))
            self.assertIs(is_inside(come_by(plant, room, u), other), is_inside(room, back_by(plant, other, u)))
            for wish in wishes_of(plant):
                self.assertTrue(is_inside(back_by(plant, room, pt(*wish)), back(plant, room)))
                one = one_wish(plant, wish)
                self.assertTrue(are_alike(back(one, room), late_back(one, room)))
                self.assertTrue(is_inside(back(one, room), back(plant, room)))
            for gust in gusts_of(plant):
                one = one_gust(plant, gust)
                self.assertTrue(are_alike(back(one, room), late_back(one, room)))
                self.assertTrue(is_inside(back(plant, room), back(one, room)))
                self.assertTrue(is_inside(late_back(plant, room), late_back(one, room)))
            self.assertTrue(is_inside(back(plant, room), late_back(plant, room)))
            both = joined(room, other)
            self.assertTrue(is_inside(back(plant, both), joined(back(plant, room), back(plant, other))))
            grown = (n, tuple((a, b + 1) for a, b in room[1]))
            for call in (back, late_back):
                if not is_bare(room):
                    self.assertTrue(is_inside(call(plant, room), call(plant, grown)))
            everything = back_mixed(plant, room, (n + m, ())) if is_bounded(back(plant, room)) else back(plant, room)
            self.assertEqual(everything, back(plant, room))

    def test_back_of_both_is_less(self):
        left, right = (1, (((1,), 0),)), (1, (((-1,), 0),))
        walls = cube(1, -4, 4)
        found = joined(back(DRIFT, joined(left, walls)), back(DRIFT, joined(right, walls)))
        self.assertEqual(lean(found), lean(cube(1, -1, 1)))
        self.assertEqual(back(DRIFT, joined(joined(left, right), walls)), never(1))


class TestLeads(unittest.TestCase):
    def test_by_hand(self):
        self.assertIs(leads(DRIFT, pt(2), pt(-2), NEAR_GOAL), True)
        self.assertIs(leads(DRIFT, pt(2), pt(-1), NEAR_GOAL), False)
        self.assertIsNone(unchanged(self, leads_out, DRIFT, pt(2), pt(-2), NEAR_GOAL))
        self.assertEqual(leads_out(DRIFT, pt(2), pt(-1), NEAR_GOAL), pt(1))
        self.assertEqual(leads_out(DRIFT, pt(2), pt(9), NEAR_GOAL), pt(-1))
        self.assertEqual(leads_out(STILL, pt(2, 0), (), cube(2)), ())
        self.assertIsNone(leads_out(STILL, pt(2, 0), (), WEDGE))

    def test_by_corners(self):
        told = seeded(226)
        for plant, room in plants(told, 60):
            for _ in range(4):
                x, u = some_standing(told, len(plant[0]), 1), some_standing(told, plant[4][0], 1)
                due = outs(plant, x, u, room)
                self.assertEqual(leads_out(plant, pt(*x), pt(*u), room), from_numbers(due[0]) if due else None)
                self.assertIs(leads(plant, pt(*x), pt(*u), room), not due)


class TestRefused(unittest.TestCase):
    def test_unbounded(self):
        for call in (come, landing, late_landing, back, late_back):
            self.assertRaises(Unbounded, call, SLIDE, WEDGE)
            self.assertRaises(Unbounded, call, STILL, (2, ()))
            self.assertEqual(call(SLIDE, BARE), never(2))
        self.assertRaises(Unbounded, come_by, SLIDE, WEDGE, pt(0))
        self.assertEqual(back_by(SLIDE, WEDGE, pt(0)), (2, (((-2, -2), -1), ((0, -1), 0))))
        self.assertEqual(back_by(STILL, (2, ()), ()), (2, ()))

    def test_mixed_is_looked_at_as_pairs(self):
        self.assertRaises(Unbounded, back_mixed, SLIDE, WEDGE, (3, ()))
        self.assertEqual(back_mixed(DRIFT, NEAR_GOAL, (2, ())), back(DRIFT, NEAR_GOAL))
        self.assertEqual(back_mixed(DRIFT, NEAR_GOAL, (2, (((-1, 0), 0),))), lean(cube(1, 0, 2)))
        self.assertEqual(back_mixed(DRIFT, (1, ()), (2, cube(2)[1])), lean(cube(1)))
        self.assertEqual(back_mixed(DRIFT, NEAR_GOAL, (2, (((-1, 0), -3),))), never(1))
        self.assertEqual(back_mixed(DRIFT, (1, (((1,), 0),)), (2, (((-1, 0), -2), ((0, 1), -3)))), never(1))

    def test_too_great(self):
        flat = slanted(polygon(78))
        still = ((pt(1, 0, 0), pt(0, 1, 0), pt(0, 0, 1)), ((), (), ()), ((), (), ()), pt(0, 0, 0), (0, ()), (0, ()))
        wide = slanted(polygon(79))
        for call in (come, landing, late_landing, back, late_back):
            self.assertEqual(len(call(still, flat)[1]), 80)
            self.assertRaises(TooGreat, call, still, wide)
            # A room that is bounded nowhere is refused ahead of too great ones.
            self.assertRaises(Unbounded, call, still, (3, wide[1][:-3] + wide[1][-2:]))
        self.assertRaises(TooGreat, come_by, still, wide, ())
        self.assertEqual(len(back_by(still, flat, ())[1]), 80)
        self.assertRaises(TooGreat, back_by, still, wide, ())
        self.assertRaises(TooGreat, back_mixed, still, wide, (3, ()))
        self.assertEqual(len(back_mixed(still, wide, cube(3, 0, 5))[1]), 6)

    def test_too_great_on_the_way(self):
        # The image of the gusts has 81 sides, but what is come to behind them is not asked.
        blown = ((pt(1, 0), pt(0, 1)), (pt(0), pt(0)), (pt(1, 0), pt(0, 1)), pt(0, 0), cube(1), polygon(81))
        big = cube(2, -9000, 9000)
        for call in (come, landing, late_landing, back, late_back):
            self.assertRaises(TooGreat, call, blown, big)
            self.assertRaises(TooGreat, call, blown, BARE)
        self.assertRaises(TooGreat, come_by, blown, big, pt(0))
        self.assertEqual(back_by(blown, big, pt(0)), lean(boxed(pt(-9000, -9000), pt(8920, 2600))))
        self.assertEqual(back_mixed(blown, big, (3, ())), lean(boxed(pt(-9000, -9000), pt(8920, 2600))))
        self.assertEqual(greatest_gust(blown, pt(0, 1)), ((6400, 1), pt(80, 6400)))


class TestJustWithin(unittest.TestCase):
    def test_in_time(self):
        told = seeded(227)
        for _ in range(2):
            def figures():
                q = told.randint(1, 10 ** 6 - 1)
                return (Fraction(told.randint(-q, q), q))
            plant = (tuple(pt(*[figures() for _ in range(3)]) for _ in range(3)),
                     tuple(pt(*[figures() for _ in range(2)]) for _ in range(3)),
                     tuple(pt(*[figures() / 3 for _ in range(2)]) for _ in range(3)),
                     pt(*[figures() for _ in range(3)]), self.ring(told, 2), self.ring(told, 2))
            room = self.ring(told, 3)
            room = (3, tuple((a, 10 * b) for a, b in room[1]))
            for call in (come, landing, late_landing, back, late_back):
                try:
                    self.assertTrue(len(call(plant, room)[1]) <= 80)
                except TooGreat:
                    pass
            self.assertFalse(is_bare(back(plant, room)))

    def ring(self, told, n):
        rows = list(cube(n, -10 ** 6, 10 ** 6)[1])
        while len(rows) < 12:
            a = tuple(told.randint(-999, 999) for _ in range(n))
            rows.append((a, 1000 * sum(abs(k) for k in a)))
        return (n, tuple(rows))


class TestLists(unittest.TestCase):
    def test_points_are_plain(self):
        for w in itertools.product((-1, 1), repeat=1):
            self.assertEqual(numbers(leads_out(DRIFT, pt(5 * w[0]), pt(0), NEAR_GOAL)), [Fraction(-1)])
