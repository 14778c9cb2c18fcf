import itertools
import unittest
from fractions import Fraction

from everygust.errors import TooGreat
from everygust.foes import LevelFoe, PaperFoe, foe_paper
from everygust.helms import CallHelm, LevelHelm, TreeHelm, helm_paper, judge_helm
from everygust.hulls import within
from everygust.levels import levels
from everygust.rows import is_in
from everygust.wishes import good_wishes
from tests import referees
from tests.helpers import ODD, cube, is_within, number, numbers, polygon, pt, seeded, unchanged
from tests.plants import (
    DRIFT, D_GOAL, D_WALLS, FAR_WALLS, NEAR_GOAL, SLIDE, STILL, WEAK, from_numbers, gusts_of, moved, near,
    points_within, some_bounded, some_plant, wishes_of)
from tests.test_steps import never


def helm_referee(plant, walls, goal, left, x, value):
    """The first fault of a helm paper: all forms are looked through ahead of all else."""
    m, ends = plant[4][0], gusts_of(plant)

    def forms(steps, paper, path):
        if steps == 0:
            return [] if paper == () and type(paper) is tuple else [("form", path)]
        good = type(paper) is tuple and len(paper) == 2 and referees.is_list_of(paper[0], m)
        if not good or type(paper[1]) is not tuple or len(paper[1]) != len(ends):
            return [("form", path)]
        return [f for k, one in enumerate(paper[1]) for f in forms(steps - 1, one, path + (k,))]

    def faults(steps, standing, paper, path):
        found = [("wall", path)] * (not is_within(walls, standing))
        if steps == 0:
            return found + [("goal", path)] * (not is_within(goal, standing))
        u = numbers(paper[0])
        found += [("wish", path)] * (not is_within(plant[4], u))
        for k, w in enumerate(ends):
            found += faults(steps - 1, moved(plant, standing, u, w), paper[1][k], path + (k,))
        return found
    return referees.first(forms(left, value, ()) or faults(left, numbers(x), value, ()))


def trips(told, many):
    found = [(DRIFT, D_WALLS, D_GOAL, 3), (WEAK, FAR_WALLS, NEAR_GOAL, 1), (SLIDE, cube(2, -3, 3), cube(2), 3),
             (STILL, cube(2), cube(2, 0, 4), 4), (SLIDE, cube(2), never(2), 1)]
    for _ in range(many):
        plant = some_plant(told)
        n = len(plant[0])
        left = told.randint(0, 3 if len(gusts_of(plant)) < 5 else 2)
        found.append((plant, cube(n, -4, told.randint(1, 4)), some_bounded(told, n), left))
    return found


def standings(told, room, walls, many=3):
    """Standings within a room, near its rows, and within the walls."""
    inside = points_within(room, told, 4)
    return inside[:many] + near(told, room, 2)[:many] + near(told, walls, 2)[:2]


class TestPapers(unittest.TestCase):
    def test_example(self):
        self.assertEqual(unchanged(self, helm_paper, DRIFT, D_WALLS, D_GOAL, 1, pt(5)), (pt(-2), ((), ())))
        self.assertIsNone(helm_paper(DRIFT, D_WALLS, D_GOAL, 1, pt(6)))
        self.assertEqual(helm_paper(DRIFT, D_WALLS, D_GOAL, 0, pt(3)), ())
        self.assertIsNone(helm_paper(DRIFT, D_WALLS, D_GOAL, 0, pt(5)))
        self.assertEqual(helm_paper(STILL, cube(2), cube(2), 2, pt(1, 0)), ((), (((), ((),)),)))

    def test_all_sorts(self):
        told = seeded(261)
        words, faults = {}, {}
        for plant, walls, goal, left in trips(told, 40):
            level = levels(plant, walls, goal, left)[left]
            for x in standings(told, level, walls, 2):
                point = from_numbers(x)
                paper = unchanged(self, helm_paper, plant, walls, goal, left, point)
                self.assertIs(paper is None, not is_in(level, point))
                words[paper is None] = True
                if paper is None:
                    continue
                self.assertIsNone(judge_helm(plant, walls, goal, left, point, paper))
                self.assertIsNone(helm_referee(plant, walls, goal, left, point, paper))
                for _ in range(4):
                    value = referees.changed(told, paper, ODD)
                    fault = judge_helm(plant, walls, goal, left, point, value)
                    self.assertEqual(fault, helm_referee(plant, walls, goal, left, point, value), (plant, value))
                    faults[fault and fault[0]] = True
        self.assertEqual(len(words), 2)
        self.assertTrue({"form", "wall", "wish", "goal"} <= set(faults), faults)

    def judged(self, left, x, value, fault):
        self.assertEqual(judge_helm(DRIFT, D_WALLS, D_GOAL, left, x, value), fault, value)
        self.assertEqual(helm_referee(DRIFT, D_WALLS, D_GOAL, left, x, value), fault, value)

    def test_each_fault(self):
        one = (pt(-2), ((), ()))
        self.judged(1, pt(5), one, None)
        self.judged(1, pt(5), (pt(-3), ((), ())), ("wish", ()))
        self.judged(1, pt(5), (pt(-1), ((), ())), ("goal", (1,)))
        self.judged(1, pt(9), one, ("wall", ()))
        self.judged(1, pt(9), (pt(-9), ((), ())), ("wall", ()))
        self.judged(1, pt(5), (pt(2), ((), ())), ("goal", (0,)))
        self.judged(1, pt(6), (pt(2), ((), ())), ("wall", (0,)))
        self.judged(1, pt(4), (pt(2), ((), ())), ("goal", (0,)))
        self.judged(1, pt(Fraction(9, 2)), (pt(2), ((), ())), ("goal", (0,)))
        self.judged(0, pt(3), (), None)
        self.judged(0, pt(5), (), ("goal", ()))
        self.judged(0, pt(7), (), ("wall", ()))
        self.judged(0, pt(3), one, ("form", ()))
        self.judged(1, pt(5), (), ("form", ()))
        self.judged(1, pt(5), (pt(-2), ((),)), ("form", ()))
        self.judged(1, pt(5), (pt(-2), ((), (), ())), ("form", ()))
        self.judged(1, pt(5), (pt(-2), ((), None)), ("form", (1,)))
        self.judged(1, pt(5), (pt(-2, 1), ((), ())), ("form", ()))
        self.judged(1, pt(5), [pt(-2), ((), ())], ("form", ()))
        self.judged(2, pt(5), (pt(-9), ((pt(0), ((), ())), (pt(-1), ((), (0,))))), ("form", (1, 1)))
        self.judged(2, pt(5), (pt(-2), (one, (pt(-2), ((), ())))), ("wall", (0, 0)))
        self.judged(2, pt(5), (pt(-2), ((pt(1), ((), ())), (pt(-7), ((), ())))), ("wish", (1,)))
        # A form that is wrong anywhere comes ahead of a wall that is left at once.
        self.judged(2, pt(9), (pt(-2), (one, (0, ((), ())))), ("form", (1,)))
        for odd in ODD:
            self.judged(1, pt(5), odd, ("form", ()))
            if odd != pt(0):
                self.judged(1, pt(5), (odd, ((), ())), ("form", ()))
            self.judged(1, pt(5), (pt(-2), odd), helm_referee(DRIFT, D_WALLS, D_GOAL, 1, pt(5), (pt(-2), odd)))

    def test_too_great(self):
        two = ((pt(1, 0), pt(0, 1)), ((), ()), (pt(0, 0), pt(0, 0)), pt(0, 0), (0, ()))
        walls = cube(2)
        for many, left, is_great in ((44, 2, False), (45, 2, True), (6, 4, False), (4, 5, False), (5, 5, True)):
            plant = two + (polygon(many),)
            count = sum(many ** k for k in range(left + 1))
            self.assertIs(count > 2000, is_great)
            x, far = pt(0, 0), pt(5, 5)
            if is_great:
                for point in (x, far):
                    self.assertRaises(TooGreat, helm_paper, plant, walls, walls, left, point)
                    self.assertRaises(TooGreat, judge_helm, plant, walls, walls, left, point, None)
            else:
                paper = helm_paper(plant, walls, walls, left, x)
                self.assertIsNone(judge_helm(plant, walls, walls, left, x, paper))
                self.assertIsNone(helm_paper(plant, walls, walls, left, far))
        big = cube(2, -9999, 9999)
        self.assertRaises(TooGreat, helm_paper, STILL, big, polygon(81), 0, pt(0, 0))
        self.assertRaises(TooGreat, helm_paper, STILL, big, polygon(81), 2, pt(0, 0))
        self.assertEqual(judge_helm(STILL, big, polygon(81), 0, pt(0, 0), ()), None)


class Outcome:
    """A trip told step by step."""

    @staticmethod
    def of(plant, walls, goal, left, x, helm, foe):
        while left:
            if not is_within(walls, x):
                return False
            point = from_numbers(x)
            u = helm.tell(left, point)
            assert u is not None and is_in(plant[4], u)
            w = foe(left, point, u)
            assert is_in(plant[5], w)
            x = moved(plant, x, numbers(u), numbers(w))
            left -= 1
        return is_within(walls, x) and is_within(goal, x)


def drawn_foe(told, plant):
    """Gusts drawn out of the room, corners or not."""
    def blow(left, x, u):
        return from_numbers(told.choice(points_within(plant[5], told, 4)))
    return blow


class TestHelms(unittest.TestCase):
    def test_win_from_levels(self):
        told = seeded(262)
        played = 0
        for plant, walls, goal, left in trips(told, 40):
            found = levels(plant, walls, goal, left)
            for x in points_within(found[left], told, 3)[:4]:
                point = from_numbers(x)
                paper = helm_paper(plant, walls, goal, left, point)
                foes = [drawn_foe(told, plant), drawn_foe(told, plant), LevelFoe(plant, found).blow]
                for helm, foe in itertools.product((TreeHelm(plant, paper, point), LevelHelm(plant, found)), foes):
                    self.assertTrue(Outcome.of(plant, walls, goal, left, list(x), helm, foe), (plant, x))
                    played += 1
        self.assertGreater(played, 100)

    def test_tree_helm(self):
        paper = helm_paper(DRIFT, D_WALLS, D_GOAL, 2, pt(6))
        helm = TreeHelm(DRIFT, paper, pt(6))
        self.assertEqual(unchanged(self, helm.tell, 2, pt(6)), paper[0])
        self.assertIsNone(helm.tell(2, pt(5)))
        self.assertIsNone(helm.tell(3, pt(6)))
        low, high = (number(paper[0][0]) + 6 + k for k in (-1, 1))
        for x in (low, high, (low + high) / 2, (3 * low + high) / 4):
            u = numbers(helm.tell(1, pt(x)))
            self.assertTrue(is_within(good_wishes(DRIFT, D_GOAL, pt(x)), u))
        self.assertIsNone(helm.tell(1, pt(high + Fraction(1, 50))))
        self.assertIsNone(TreeHelm(DRIFT, (), pt(3)).tell(1, pt(3)))

    def test_tree_helm_mixes(self):
        # Told wishes are mixed with the weights of the standings, in as many coordinates as there are.
        told = seeded(263)
        for _ in range(20):
            plant = some_plant(told, None, 2, told.randint(1, 2))
            n = len(plant[0])
            ends = gusts_of(plant)
            behind = tuple((from_numbers(told.choice(wishes_of(plant))), ((),) * len(ends)) for _ in ends)
            paper = (from_numbers(wishes_of(plant)[0]), behind)
            helm = TreeHelm(plant, paper, pt(*[0] * n))
            tier = [moved(plant, [0] * n, numbers(paper[0]), w) for w in ends]
            shares = [told.randint(0, 3) for _ in ends]
            shares[0] += 1
            x = [sum(Fraction(s, sum(shares)) * y[j] for s, y in zip(shares, tier)) for j in range(n)]
            u = helm.tell(1, pt(*x))
            self.assertEqual(len(u), 2)
            # Any weights do that make the standing; the next standings are means of what those at the corners come to.
            spread = [list(y) + numbers(one[0]) for y, one in zip(tier, behind)]
            self.assertTrue(self.is_mean(x + numbers(u), spread))

    def is_mean(self, point, points):
        return within(len(point), [pt(*one) for one in points], pt(*point))[0] == "mean"

    def test_level_helm(self):
        found = levels(DRIFT, D_WALLS, D_GOAL, 2)
        helm = LevelHelm(DRIFT, found)
        self.assertEqual(unchanged(self, helm.tell, 1, pt(5)), pt(-2))
        self.assertEqual(helm.tell(1, pt(6)), pt(-2))
        self.assertEqual(helm.tell(1, pt(-40)), pt(-2))
        self.assertEqual(helm.tell(2, pt(0)), pt(2))
        self.assertEqual(LevelHelm(DRIFT, list(found)).tell(1, pt(1)), pt(2))
        self.assertEqual(LevelHelm(SLIDE, (never(2),)).tell(1, pt(0, 0)), pt(-1))

    def test_call_helm(self):
        asked = []

        def call(left, x):
            asked.append((left, x))
            return pt(left)
        helm = CallHelm(call)
        self.assertEqual(helm.tell(2, pt(5)), pt(2))
        self.assertEqual(asked, [(2, pt(5))])
        self.assertIsNone(CallHelm(lambda left, x: None).tell(1, pt(0)))

    def test_lose_beyond_levels(self):
        told = seeded(264)
        played = 0
        for plant, walls, goal, left in trips(told, 40):
            found = levels(plant, walls, goal, left)
            for x in near(told, walls, 3)[:5]:
                point = from_numbers(x)
                if is_in(found[left], point):
                    continue
                paper = foe_paper(plant, walls, goal, left, point)
                helms = [LevelHelm(plant, found), CallHelm(lambda left, x: from_numbers(wishes_of(plant)[-1]))]
                for helm, foe in itertools.product(helms, (PaperFoe(plant, paper), LevelFoe(plant, found))):
                    self.assertFalse(Outcome.of(plant, walls, goal, left, list(x), helm, foe.blow), (plant, x))
                    played += 1
        self.assertGreater(played, 100)
