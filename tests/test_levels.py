import unittest
from fractions import Fraction

from everygust.errors import TooGreat, Unbounded
from everygust.lean import lean
from everygust.levels import come_to, last_chance, levels, levels_by, levels_with
from everygust.rows import boxed, joined
from everygust.steps import back, come, late_back
from everygust.weights import is_bare, is_inside
from everygust.wishes import good_wishes
from tests.helpers import (
    corners_by_trying, cube, is_within, polygon, pt, seeded, slanted, unchanged)
from tests.plants import (
    DRIFT, D_GOAL, D_WALLS, FAR_WALLS, NEAR_GOAL, SLIDE, STILL, WEAK, gusts_of, is_back, is_late_back, moved, near,
    some_bounded, some_plant, some_standing)
from tests.test_steps import never
from tests.test_weights import BARE, WEDGE


def stretch(low, high):
    """The lean room of one coordinate from a number to another one."""
    return lean(boxed(pt(low), pt(high)))


def some_walls(told, n):
    return cube(n, -told.randint(2, 4), told.randint(2, 5))


def trips(told, many):
    """Courses with walls and a goal."""
    found = []
    for _ in range(many):
        n = told.choice([1, 1, 2, 2, 3])
        course = []
        for _ in range(told.randint(1, 3)):
            plant = course[0][0] if course and told.random() < 0.7 else some_plant(told, n, told.randint(0, 1 + (n < 3)))
            course.append((plant, told.choice(["early", "late"])))
        goal = some_bounded(told, n, False)
        found.append((tuple(course), some_walls(told, n), goal))
    return found


class TestByHand(unittest.TestCase):
    def test_drift(self):
        found = unchanged(self, levels, DRIFT, FAR_WALLS, NEAR_GOAL, 5)
        self.assertEqual(found, tuple(stretch(-k, k) for k in (1, 2, 3, 4, 5, 5)))
        self.assertEqual(levels(DRIFT, D_WALLS, D_GOAL, 3), (
            stretch(2, 4), stretch(1, 5), stretch(0, 6), stretch(0, 6)))
        self.assertEqual(levels(DRIFT, FAR_WALLS, NEAR_GOAL, 0), (stretch(-1, 1),))

    def test_late_and_early(self):
        found = unchanged(self, levels_by, ((WEAK, "late"), (WEAK, "early")), FAR_WALLS, NEAR_GOAL)
        self.assertEqual(found, (stretch(-1, 1), stretch(0, 0), never(1)))
        self.assertEqual(levels_by(((WEAK, "early"), (WEAK, "late")), FAR_WALLS, NEAR_GOAL), (
            stretch(-1, 1), never(1), never(1)))
        self.assertEqual(levels_by((), FAR_WALLS, NEAR_GOAL), (stretch(-1, 1),))
        self.assertEqual(levels_by([(DRIFT, "late")], FAR_WALLS, NEAR_GOAL)[1], stretch(-2, 2))

    def test_need_not_lie_in_one_another(self):
        # The craft turns round at each step: what is in the goal is not in it a step later.
        turn = ((pt(-1),), ((),), ((),), pt(0), (0, ()), (0, ()))
        found = levels(turn, FAR_WALLS, stretch(1, 2), 3)
        self.assertEqual(found, (stretch(1, 2), stretch(-2, -1), stretch(1, 2), stretch(-2, -1)))

    def test_bare(self):
        for walls, goal in ((never(1), NEAR_GOAL), (FAR_WALLS, never(1)), (stretch(-5, -3), NEAR_GOAL)):
            self.assertEqual(levels(DRIFT, walls, goal, 2), (never(1),) * 3)
            self.assertEqual(levels_by(((DRIFT, "late"),), walls, goal), (never(1),) * 2)
            self.assertIsNone(last_chance(DRIFT, walls, goal, 2, pt(0)))

    def test_chances(self):
        found = levels(DRIFT, FAR_WALLS, NEAR_GOAL, 4)
        self.assertEqual(unchanged(self, levels_with, found, pt(3)), (2, 3, 4))
        self.assertEqual(levels_with(list(found), pt(Fraction(7, 2))), (3, 4))
        self.assertEqual(levels_with(found, pt(6)), ())
        self.assertEqual(levels_with((), pt(6)), ())
        self.assertEqual(unchanged(self, last_chance, DRIFT, FAR_WALLS, NEAR_GOAL, 4, pt(3)), 4)
        self.assertEqual(last_chance(DRIFT, FAR_WALLS, NEAR_GOAL, 1, pt(2)), 1)
        self.assertIsNone(last_chance(DRIFT, FAR_WALLS, NEAR_GOAL, 1, pt(3)))
        turn = ((pt(-1),), ((),), ((),), pt(0), (0, ()), (0, ()))
        self.assertEqual(last_chance(turn, FAR_WALLS, stretch(1, 2), 4, pt(-1)), 3)

    def test_come_to(self):
        self.assertEqual(unchanged(self, come_to, DRIFT, NEAR_GOAL, 2), (stretch(-1, 1), stretch(-4, 4), stretch(-7, 7)))
        self.assertEqual(come_to(DRIFT, never(1), 1), (never(1),) * 2)
        self.assertEqual(come_to(SLIDE, WEDGE, 0), (lean(WEDGE),))
        self.assertRaises(Unbounded, come_to, SLIDE, WEDGE, 1)

    def test_rooms_that_have_ways(self):
        for course in (((STILL, "early"),), ((STILL, "late"),)):
            self.assertRaises(Unbounded, levels_by, course, (2, ()), (2, ()))


class TestCourses(unittest.TestCase):
    def test_by_standings(self):
        told = seeded(231)
        kinds = {}
        for course, walls, goal in trips(told, 40):
            found = unchanged(self, levels_by, course, walls, goal)
            self.assertEqual(len(found), len(course) + 1)
            self.assertEqual(found[0], lean(joined(walls, goal)))
            for j, (plant, word) in enumerate(course):
                below, level = found[j], found[j + 1]
                self.assertEqual(level, lean(level))
                led = {"early": is_back, "late": is_late_back}[word]
                for x in near(told, level, 2)[:8] + [some_standing(told, walls[0], 2)]:
                    due = is_within(walls, x) and led(plant, x, below)
                    self.assertEqual(is_within(level, x), due, (course, walls, goal, j, x))
                    kinds[word, due] = True
        self.assertEqual(len(kinds), 4)

    def test_by_back(self):
        told = seeded(232)
        for course, walls, goal in trips(told, 30):
            found = levels_by(course, walls, goal)
            for j, (plant, word) in enumerate(course):
                call = {"early": back, "late": late_back}[word]
                self.assertEqual(found[j + 1], lean(joined(walls, call(plant, found[j]))))
            for a in range(len(course) + 1):
                self.assertEqual(levels_by(course[a:], walls, found[a]), found[a:])
            later = levels_by(tuple((plant, "late") for plant, _ in course), walls, goal)
            for one, other in zip(found, later):
                self.assertTrue(is_inside(one, other))
            plant = course[0][0]
            same = tuple((plant, "early") for _ in course)
            self.assertEqual(levels(plant, walls, goal, len(course)), levels_by(same, walls, goal))

    def test_sure_plans(self):
        told = seeded(233)
        won = {}
        for course, walls, goal in trips(told, 30):
            found = levels_by(course, walls, goal)
            for x in near(told, found[-1], 2)[:6]:
                is_sure = is_within(found[-1], x)
                self.assertEqual(self.play(told, course, walls, goal, found, list(x)), is_sure)
                won[is_sure] = True
        self.assertEqual(len(won), 2)

    def play(self, told, course, walls, goal, found, x):
        """Whether the helm wins, both leading as well as they can; each looks at the levels alone."""
        for j in range(len(course), 0, -1):
            if not is_within(walls, x):
                return False
            plant, word = course[j - 1]
            below = found[j - 1]
            if word == "early":
                u = self.wish(told, plant, x, below, plant)
                w = self.gust(plant, x, u, below)
            else:
                # Told late, the gust is that which no wish does for, if there is one.
                w = next((w for w in gusts_of(plant) if not is_back(self.with_gust(plant, w), x, below)), None)
                w = told.choice(gusts_of(plant)) if w is None else w
                u = self.wish(told, plant, x, below, self.with_gust(plant, w))
            x = moved(plant, x, u, w)
        return is_within(walls, x) and is_within(goal, x)

    def with_gust(self, plant, w):
        point = pt(*w)
        return plant[:5] + (boxed(point, point),)

    def wish(self, told, plant, x, below, asking):
        """A wish that does for all gusts, if there is one: any corner of the good ones."""
        rows = [(tuple(a), b) for a, b in plant[4][1]]
        good = good_wishes(asking, below, pt(*x))
        ends = corners_by_trying(good)
        return told.choice(ends or corners_by_trying((plant[4][0], tuple(rows))))

    def gust(self, plant, x, u, below):
        out = [w for w in gusts_of(plant) if not is_within(below, moved(plant, x, u, w))]
        return out[0] if out else gusts_of(plant)[-1]

    def test_come_to_holds(self):
        told = seeded(234)
        for course, walls, goal in trips(told, 25):
            plant = course[0][0]
            room = some_bounded(told, walls[0], False)
            found = come_to(plant, room, 2)
            self.assertEqual(found[0], lean(room))
            self.assertEqual(found[1], come(plant, room))
            self.assertEqual(found[2], come(plant, found[1]))
            for j in (1, 2):
                if is_bare(joined(found[j], goal)):
                    for word in ("early", "late"):
                        level = levels_by(((plant, word),) * j, walls, goal)[j]
                        self.assertTrue(is_bare(joined(level, room)))


class TestTooGreat(unittest.TestCase):
    def test_levels(self):
        for many in (0, 2):
            self.assertEqual(len(levels(STILL, cube(2, -9999, 9999), polygon(80), many)[many][1]), 80)
            self.assertRaises(TooGreat, levels, STILL, cube(2, -9999, 9999), polygon(81), many)
            self.assertRaises(TooGreat, last_chance, STILL, cube(2, -9999, 9999), polygon(81), many, pt(0, 9))
        self.assertRaises(TooGreat, levels_by, ((STILL, "late"),), polygon(81), cube(2, -9999, 9999))
        self.assertEqual(levels(STILL, cube(2, 0, 4), polygon(81), 1)[1], lean(joined(cube(2, 0, 4), polygon(81))))

    def test_only_levels_count_early(self):
        # The landing has more than 80 sides, but the level has few.
        shape = polygon(60)
        turned = (2, tuple(((a[1], -a[0]), b) for a, b in polygon(40)[1]))
        plant = ((pt(1, 0), pt(0, 1)), (pt(1, 0), pt(0, 1)), ((), ()), pt(0, 0), turned, (0, ()))
        walls = cube(2, 0, 3)
        self.assertRaises(TooGreat, levels, plant, cube(2, -9999, 9999), shape, 1)
        goal = joined(shape, cube(2, -9999, 9999))
        course = ((plant, "early"), (STILL, "early"))
        self.assertRaises(TooGreat, levels_by, course, cube(2, -9999, 9999), goal)
        still = plant[:4] + (turned, (0, ()))
        self.assertTrue(len(levels(still, walls, joined(shape, walls), 1)[1][1]) <= 80)
        self.assertTrue(len(levels(still, joined(walls, shape), shape, 1)[1][1]) <= 80)
        bigger = joined(shape, cube(2, -9999, 9999))
        near_walls = (2, bigger[1] + cube(2, 0, 3)[1])
        found = levels_by(((still, "early"),), near_walls, near_walls)
        self.assertTrue(len(found[1][1]) <= 80)

    def test_late_steps_count_all(self):
        turned = (2, tuple(((a[1], -a[0]), b) for a, b in polygon(45)[1]))
        plant = ((pt(1, 0), pt(0, 1)), (pt(1, 0), pt(0, 1)), ((), ()), pt(0, 0), turned, (0, ()))
        shape = polygon(40)
        self.assertEqual(len(levels(plant, shape, shape, 1)), 2)
        self.assertRaises(TooGreat, levels_by, ((plant, "late"),), shape, shape)

    def test_come_to(self):
        still = ((pt(1, 0, 0), pt(0, 1, 0), pt(0, 0, 1)), ((), (), ()), ((), (), ()), pt(0, 0, 0), (0, ()), (0, ()))
        self.assertEqual(len(come_to(still, slanted(polygon(78)), 2)[2][1]), 80)
        for many in (0, 2):
            self.assertRaises(TooGreat, come_to, still, slanted(polygon(79)), many)
        wide = slanted(polygon(100))
        self.assertRaises(Unbounded, come_to, still, (3, wide[1][:-3] + wide[1][-2:]), 1)
        self.assertRaises(TooGreat, come_to, still, (3, wide[1][:-3] + wide[1][-2:]), 0)


class TestJustWithin(unittest.TestCase):
    def test_in_time(self):
        told = seeded(235)
        for figures, many in ((10, 6), (999, 6), (10 ** 6 - 1, 2)):
            def part():
                q = told.randint(1, figures)
                return Fraction(told.randint(-q, q), q)

            def ring(n, size):
                rows = list(cube(n, -size, size)[1])
                while len(rows) < 12:
                    a = tuple(told.randint(-99, 99) for _ in range(n))
                    rows.append((a, size * sum(abs(k) for k in a) * 3 // 4))
                return (n, tuple(rows))
            plant = (tuple(pt(*[part() for _ in range(3)]) for _ in range(3)),
                     tuple(pt(*[part() for _ in range(2)]) for _ in range(3)),
                     tuple(pt(*[part() / 3 for _ in range(2)]) for _ in range(3)), pt(*[part() for _ in range(3)]),
                     ring(2, 3), ring(2, 1))
            walls, goal = ring(3, 30), ring(3, 12)
            try:
                self.assertEqual(len(levels(plant, walls, goal, many)), many + 1)
            except TooGreat:
                self.assertEqual(figures, 10)


class TestOfBare(unittest.TestCase):
    def test_bare_walls_of_two(self):
        self.assertEqual(levels(SLIDE, BARE, cube(2), 1), (never(2), never(2)))
