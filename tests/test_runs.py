import unittest
from fractions import Fraction

from everygust.errors import BadGust, BadWish
from everygust.foes import CallFoe, LevelFoe, PaperFoe, foe_paper
from everygust.helms import CallHelm, LevelHelm, TreeHelm, helm_paper
from everygust.levels import levels
from everygust.rows import is_in
from everygust.runs import judge_history, outcome, run
from tests import referees
from tests.helpers import ODD, is_within, numbers, pt, seeded, unchanged
from tests.plants import (
    DRIFT, D_GOAL, D_WALLS, STILL, from_numbers, moved, points_within, wishes_of)
from tests.test_helms import standings, trips

GOOD = ((pt(6), pt(-2), pt(1)), (pt(5), pt(-2), pt(1)), (pt(4),))


def history_referee(plant, walls, goal, value):
    n, m, k = len(plant[0]), plant[4][0], plant[5][0]
    good = type(value) is tuple and len(value) > 0 and type(value[-1]) is tuple and len(value[-1]) == 1
    good = good and referees.is_list_of(value[-1][0], n)
    for step in value[:-1] if good else ():
        good = good and type(step) is tuple and len(step) == 3 and referees.is_list_of(step[0], n)
        good = good and referees.is_list_of(step[1], m) and referees.is_list_of(step[2], k)
    if not good:
        return ("form",)
    found = []
    for number, step in enumerate(value[:-1]):
        x, u, w = (numbers(one) for one in step)
        found += [("wish", number)] * (not is_within(plant[4], u)) + [("gust", number)] * (not is_within(plant[5], w))
        found += [("step", number)] * (moved(plant, x, u, w) != numbers(value[number + 1][0]))
    found += [("wall", number) for number, step in enumerate(value) if not is_within(walls, numbers(step[0]))]
    return referees.first(found + [("goal",)] * (not is_within(goal, numbers(value[-1][0]))))


class TestRun(unittest.TestCase):
    def test_by_hand(self):
        found = levels(DRIFT, D_WALLS, D_GOAL, 2)
        helm, foe = LevelHelm(DRIFT, found), CallFoe(lambda left, x, u: pt(1))
        self.assertEqual(unchanged(self, lambda x: run(DRIFT, x, 2, helm, foe), pt(6)), GOOD)
        self.assertEqual(run(DRIFT, pt(6), 0, helm, foe), ((pt(6),),))
        self.assertEqual(run(STILL, pt(1, 2), 1, CallHelm(lambda left, x: ()), CallFoe(lambda left, x, u: ())),
                         ((pt(1, 2), (), ()), (pt(1, 2),)))

    def test_what_is_asked(self):
        asked = []

        def tell(left, x):
            asked.append(("tell", left, x))
            return pt(0)

        def blow(left, x, u):
            asked.append(("blow", left, x, u))
            return pt(1)
        run(DRIFT, pt(2), 2, CallHelm(tell), CallFoe(blow))
        self.assertEqual(asked, [("tell", 2, pt(2)), ("blow", 2, pt(2), pt(0)), ("tell", 1, pt(3)),
                                 ("blow", 1, pt(3), pt(0))])

    def test_refused(self):
        for wish in ODD + [pt(3), pt(-3), pt(0, 0), (), [(0, 1)], ((0, 2),)]:
            if wish == pt(0):
                continue
            asked = []
            helm = CallHelm(lambda left, x: wish if left == 1 else pt(0))
            foe = CallFoe(lambda left, x, u: asked.append(left) or pt(0))
            with self.assertRaises(BadWish) as caught:
                run(DRIFT, pt(2), 3, helm, foe)
            self.assertEqual(caught.exception.number, 2)
            self.assertEqual(asked, [3, 2])
            with self.assertRaises(BadGust) as caught:
                run(DRIFT, pt(2), 2, CallHelm(lambda left, x: pt(0)), CallFoe(lambda left, x, u: wish))
            self.assertEqual(caught.exception.number, 0)

    def test_who_wins(self):
        told = seeded(281)
        words = {}
        for plant, walls, goal, left in trips(told, 40):
            found = levels(plant, walls, goal, left)
            for x in standings(told, found[left], walls, 2):
                point = from_numbers(x)
                drawn = CallFoe(lambda left, x, u: from_numbers(told.choice(points_within(plant[5], told, 3))))
                if is_in(found[left], point):
                    paper = helm_paper(plant, walls, goal, left, point)
                    helms = [LevelHelm(plant, found), TreeHelm(plant, paper, point)]
                    foes, due = [LevelFoe(plant, found), drawn], ("kept",)
                else:
                    paper = foe_paper(plant, walls, goal, left, point)
                    wild = CallHelm(lambda left, x: from_numbers(told.choice(wishes_of(plant))))
                    helms, foes, due = [LevelHelm(plant, found), wild], [LevelFoe(plant, found), PaperFoe(plant, paper)], None
                for helm in helms:
                    for foe in foes:
                        history = run(plant, point, left, helm, foe)
                        self.assertEqual(len(history), left + 1)
                        told_outcome = outcome(walls, goal, history)
                        self.assertEqual(told_outcome == ("kept",), due == ("kept",), (plant, x))
                        fault = judge_history(plant, walls, goal, history)
                        self.assertEqual(fault, None if due else told_outcome)
                        self.assertEqual(fault, history_referee(plant, walls, goal, history))
                        words[told_outcome[0]] = True
        self.assertEqual(sorted(words), ["goal", "kept", "wall"])


class TestHistories(unittest.TestCase):
    def judged(self, value, fault):
        self.assertEqual(judge_history(DRIFT, D_WALLS, D_GOAL, value), fault, value)
        self.assertEqual(history_referee(DRIFT, D_WALLS, D_GOAL, value), fault, value)

    def test_each_fault(self):
        self.judged(GOOD, None)
        self.judged(((pt(3),),), None)
        self.judged(((pt(5),),), ("goal",))
        self.judged(((pt(9),),), ("wall", 0))
        self.judged((), ("form",))
        self.judged(GOOD[:2], ("form",))
        self.judged(GOOD + GOOD[2:], ("form",))
        self.judged(list(GOOD), ("form",))
        self.judged(GOOD[:2] + (pt(4),), ("form",))
        self.judged((GOOD[0][:2],) + GOOD[1:], ("form",))
        self.judged(((pt(6), pt(-3), pt(2)),) + GOOD[1:], ("wish", 0))
        self.judged(((pt(6), pt(-2), pt(Fraction(3, 2))),) + GOOD[1:], ("gust", 0))
        self.judged(((pt(6), pt(-1), pt(1)),) + GOOD[1:], ("step", 0))
        self.judged(GOOD[:2] + ((pt(3),),), ("step", 1))
        self.judged(((pt(6), pt(-1), pt(1)), (pt(5), pt(-9), pt(1)), (pt(4),)), ("step", 0))
        self.judged(((pt(7), pt(-2), pt(1)), (pt(6), pt(-2), pt(1)), (pt(5),)), ("wall", 0))
        self.judged(((pt(6), pt(0), pt(1)), (pt(7), pt(-2), pt(-1)), (pt(4),)), ("wall", 1))
        self.judged(((pt(6), pt(-2), pt(1)), (pt(5), pt(-1), pt(1)), (pt(5),)), ("goal",))
        self.judged(((pt(6), pt(0), pt(1)), (pt(7), pt(-2), pt(2)), (pt(7),)), ("gust", 1))
        for odd in ODD:
            self.judged(odd, ("form",))
            self.judged((odd,) + GOOD[1:], ("form",))
            self.judged(GOOD[:2] + (odd,), history_referee(DRIFT, D_WALLS, D_GOAL, GOOD[:2] + (odd,)))

    def test_changed(self):
        told = seeded(282)
        faults = {}
        for _ in range(400):
            value = referees.changed(told, GOOD, ODD)
            fault = judge_history(DRIFT, D_WALLS, D_GOAL, value)
            self.assertEqual(fault, history_referee(DRIFT, D_WALLS, D_GOAL, value), value)
            faults[fault and fault[0]] = True
        self.assertTrue({"form", "wish", "gust", "step"} <= set(faults), faults)

    def test_outcome(self):
        self.assertEqual(unchanged(self, outcome, D_WALLS, D_GOAL, GOOD), ("kept",))
        self.assertEqual(outcome(D_WALLS, D_GOAL, ((pt(6), 0, 0), (pt(7), 0, 0), (pt(8),))), ("wall", 1))
        self.assertEqual(outcome(D_WALLS, D_GOAL, ((pt(6), 0, 0), (pt(7),))), ("wall", 1))
        self.assertEqual(outcome(D_WALLS, D_GOAL, ((pt(6), 0, 0), (pt(1),))), ("goal",))
