import unittest
from fractions import Fraction

from everygust.errors import TooGreat
from everygust.foes import CallFoe, LevelFoe, PaperFoe, foe_paper, judge_foe
from everygust.levels import levels
from everygust.rows import is_in
from tests import referees
from tests.helpers import ODD, cube, numbers, polygon, product_of, pt, seeded, unchanged
from tests.plants import (
    DRIFT, D_GOAL, D_WALLS, FAR_WALLS, NEAR_GOAL, SLIDE, STILL, WEAK, from_numbers, gusts_of)
from tests.test_books import is_parts, is_row, paper_faults
from tests.test_helms import standings, trips
from tests.test_steps import never
from tests.test_weights import BARE

FIRST = (((1,), 5), ((0, (1, 1), pt(1)),), pt(0, 1), pt(0, 0))
EXAMPLE = ((FIRST,), ((((1,), 4),),))


def foe_referee(plant, walls, goal, left, x, value):
    n = walls[0]
    if type(value) is not tuple or len(value) != left + 1 or any(type(tier) is not tuple for tier in value):
        return ("form",)
    good = len(value[0]) > 0
    for number, tier in enumerate(value):
        for entry in tier:
            good = good and type(entry) is tuple and len(entry) == (1 if number == left else 4) and is_row(n, entry[0])
            if good and number < left:
                good = is_parts(plant, len(value[number + 1]), entry[1])
                good = good and referees.is_weights(entry[2], len(plant[4][1]))
                good = good and referees.is_weights(entry[3], len(walls[1]))
    if not good:
        return ("form",)
    a, b = value[0][0][0]
    found = [("there",)] * (product_of(a, numbers(x)) <= b)
    for number, tier in enumerate(value[:left]):
        rows = [entry[0] for entry in value[number + 1]]
        for k, entry in enumerate(tier):
            for fault in paper_faults(plant, walls, rows, entry[0], entry[1:]):
                found.append((fault[0], number, k) + fault[1:])
    found += [("last", k) for k, (row,) in enumerate(value[left]) if row not in walls[1] + goal[1]]
    return referees.first(found)


class TestPapers(unittest.TestCase):
    def test_example(self):
        self.assertEqual(unchanged(self, foe_paper, DRIFT, D_WALLS, D_GOAL, 1, pt(6)), EXAMPLE)
        self.assertIsNone(judge_foe(DRIFT, D_WALLS, D_GOAL, 1, pt(6), EXAMPLE))
        self.assertIsNone(foe_paper(DRIFT, D_WALLS, D_GOAL, 1, pt(5)))
        self.assertEqual(foe_paper(DRIFT, D_WALLS, D_GOAL, 0, pt(5)), (((((1,), 4),),),))
        self.assertIsNone(foe_paper(DRIFT, D_WALLS, D_GOAL, 0, pt(4)))

    def test_all_sorts(self):
        told = seeded(271)
        words, faults = {}, {}
        for plant, walls, goal, left in trips(told, 50):
            level = levels(plant, walls, goal, left)[left]
            for x in standings(told, level, walls, 3):
                point = from_numbers(x)
                paper = unchanged(self, foe_paper, plant, walls, goal, left, point)
                self.assertIs(paper is None, is_in(level, point))
                words[paper is None] = True
                if paper is None:
                    continue
                self.assertIsNone(judge_foe(plant, walls, goal, left, point, paper))
                self.assertIsNone(foe_referee(plant, walls, goal, left, point, paper))
                for _ in range(4):
                    value = referees.changed(told, paper, ODD)
                    fault = judge_foe(plant, walls, goal, left, point, value)
                    self.assertEqual(fault, foe_referee(plant, walls, goal, left, point, value), (plant, value))
                    faults[fault and fault[0]] = True
        self.assertEqual(len(words), 2)
        self.assertTrue({"form", "there", "turn", "row", "sum", "last"} <= set(faults), faults)

    def test_bare(self):
        for walls, goal in ((never(1), NEAR_GOAL), (FAR_WALLS, never(1))):
            for left in range(4):
                paper = foe_paper(DRIFT, walls, goal, left, pt(0))
                self.assertIsNone(judge_foe(DRIFT, walls, goal, left, pt(0), paper))
                self.assertIsNone(foe_referee(DRIFT, walls, goal, left, pt(0), paper))
        paper = foe_paper(SLIDE, BARE, cube(2), 2, pt(0, 0))
        self.assertIsNone(judge_foe(SLIDE, BARE, cube(2), 2, pt(0, 0), paper))
        paper = foe_paper(WEAK, FAR_WALLS, NEAR_GOAL, 3, pt(0))
        self.assertIsNone(judge_foe(WEAK, FAR_WALLS, NEAR_GOAL, 3, pt(0), paper))

    def judged(self, left, x, value, fault):
        self.assertEqual(judge_foe(DRIFT, D_WALLS, D_GOAL, left, x, value), fault, value)
        self.assertEqual(foe_referee(DRIFT, D_WALLS, D_GOAL, left, x, value), fault, value)

    def test_each_fault(self):
        six, last = pt(6), EXAMPLE[1]

        def with_first(at, part):
            return ((FIRST[:at] + (part,) + FIRST[at + 1:],), last)
        self.judged(1, six, EXAMPLE, None)
        self.judged(1, pt(5), EXAMPLE, ("there",))
        self.judged(1, pt(5), (((FIRST[0], ()) + FIRST[2:],), ((((1,), 3),),)), ("there",))
        self.judged(1, six, with_first(1, ((0, (1, 1), pt(2)),)), ("gust", 0, 0, 0))
        self.judged(1, six, with_first(1, ((0, (1, 2), pt(1)), (0, (1, 2), pt(2)))), ("gust", 0, 0, 1))
        self.judged(1, six, with_first(2, pt(0, 0)), ("turn", 0, 0))
        self.judged(1, six, with_first(3, pt(1, 0)), ("row", 0, 0))
        self.judged(1, six, with_first(3, pt(1, 1)), ("sum", 0, 0))
        self.judged(1, six, with_first(1, ((0, (1, 1), pt(0)),)), ("sum", 0, 0))
        self.judged(1, six, with_first(0, ((1,), 4)), ("sum", 0, 0))
        self.judged(1, six, with_first(0, ((2,), 10)), ("row", 0, 0))
        self.judged(1, six, (EXAMPLE[0], ((((1,), 3),),)), ("last", 0))
        self.judged(1, six, (EXAMPLE[0], last + ((((2,), 8),),)), ("last", 1))
        self.judged(1, six, (EXAMPLE[0], last + ((((-1,), 0),), (((1,), 6),))), None)
        self.judged(1, six, (EXAMPLE[0], ()), ("form",))
        self.judged(1, six, ((), last), ("form",))
        self.judged(1, six, (EXAMPLE[0], (((1,), 4),)), ("form",))
        self.judged(2, six, EXAMPLE, ("form",))
        self.judged(0, six, (last,), None)
        self.judged(0, six, EXAMPLE, ("form",))
        self.judged(1, pt(7), (((((1,), 6), (), pt(0, 0), pt(1, 0)),), ()), None)
        self.judged(1, six, with_first(1, ((1, (1, 1), pt(1)),)), ("form",))
        self.judged(1, six, with_first(1, ((0, (0, 1), pt(1)),)), ("form",))
        self.judged(1, six, with_first(2, pt(0, -1)), ("form",))
        self.judged(1, six, with_first(3, pt(0)), ("form",))
        # Each entry wholly ahead of the next one, and tiers in their order.
        bad_turn = FIRST[:2] + (pt(0, 0), pt(0, 0))
        bad_gust = (FIRST[0], ((0, (1, 1), pt(2)),)) + FIRST[2:]
        self.judged(1, six, ((FIRST, bad_turn, bad_gust), last), ("turn", 0, 1))
        self.judged(1, six, ((FIRST, bad_gust, bad_turn), ((((1,), 4),), (((9,), 4),))), ("gust", 0, 1, 0))
        over = (((1,), 6), (), pt(0, 0), pt(1, 0))
        self.judged(2, pt(7), ((over,), (bad_turn,), last), ("turn", 1, 0))
        self.judged(2, pt(7), ((over,), (FIRST,), last), None)
        for odd in ODD:
            for value in (odd, (odd, last), (EXAMPLE[0], odd), ((odd,), last), (EXAMPLE[0], (odd,))):
                self.judged(1, six, value, foe_referee(DRIFT, D_WALLS, D_GOAL, 1, six, value))
            for at in range(4):
                self.judged(1, six, with_first(at, odd), foe_referee(DRIFT, D_WALLS, D_GOAL, 1, six, with_first(at, odd)))

    def test_too_great(self):
        big = cube(2, -9999, 9999)
        for left in (0, 2):
            self.assertRaises(TooGreat, foe_paper, STILL, big, polygon(81), left, pt(0, -1))
            paper = foe_paper(STILL, big, polygon(80), left, pt(0, -1))
            self.assertIsNone(judge_foe(STILL, big, polygon(80), left, pt(0, -1), paper))
        self.assertEqual(judge_foe(STILL, big, polygon(81), 0, pt(0, -1), (((polygon(81)[1][0],),),)), None)


class TestFoes(unittest.TestCase):
    def test_paper_foe(self):
        foe = PaperFoe(DRIFT, EXAMPLE)
        self.assertEqual(unchanged(self, foe.blow, 1, pt(6), pt(-2)), pt(1))
        self.assertEqual(foe.blow(1, pt(5), pt(2)), pt(-1))
        self.assertEqual(foe.blow(1, pt(6), pt(-9)), pt(-1))
        self.assertEqual(foe.blow(2, pt(6), pt(0)), pt(-1))
        self.assertEqual(foe.blow(0, pt(6), pt(0)), pt(-1))
        # Of the first broken entry alone, the first part that breaks its row.
        rows = ((((-1,), 9),), (((1,), 4),))
        two = (((1,), 5), ((0, (1, 1), pt(1)), (1, (1, 1), pt(0)), (1, (1, 1), pt(1))), pt(0, 0), pt(0, 0))
        none = (((1,), 7), ((1, (1, 1), pt(1)),), pt(0, 0), pt(0, 0))
        self.assertEqual(PaperFoe(DRIFT, ((none, two), rows)).blow(1, pt(6), pt(0)), pt(0))
        self.assertEqual(PaperFoe(DRIFT, ((none, two), rows)).blow(1, pt(6), pt(-2)), pt(1))
        self.assertEqual(PaperFoe(DRIFT, ((none, two), rows)).blow(1, pt(8), pt(-2)), pt(1))
        first = (((1,), 5), ((0, (1, 1), pt(1)),), pt(0, 0), pt(0, 0))
        self.assertEqual(PaperFoe(DRIFT, ((first, two), rows)).blow(1, pt(6), pt(0)), pt(-1))

    def test_level_foe(self):
        found = levels(DRIFT, D_WALLS, D_GOAL, 2)
        foe = LevelFoe(DRIFT, found)
        self.assertEqual(unchanged(self, foe.blow, 1, pt(6), pt(-2)), pt(1))
        self.assertEqual(foe.blow(1, pt(5), pt(-2)), pt(-1))
        self.assertEqual(foe.blow(1, pt(2), pt(0)), pt(-1))
        self.assertEqual(foe.blow(2, pt(2), pt(2)), pt(-1))
        self.assertEqual(foe.blow(2, pt(4), pt(1)), pt(1))
        self.assertEqual(LevelFoe(DRIFT, list(found)).blow(1, pt(6), pt(-2)), pt(1))
        self.assertEqual(LevelFoe(STILL, (cube(2),)).blow(1, pt(0, 0), ()), ())

    def test_call_foe(self):
        asked = []

        def call(left, x, u):
            asked.append((left, x, u))
            return pt(Fraction(1, left))
        self.assertEqual(CallFoe(call).blow(2, pt(5), pt(0)), pt(Fraction(1, 2)))
        self.assertEqual(asked, [(2, pt(5), pt(0))])

    def test_gusts_of_papers_are_gusts(self):
        told = seeded(272)
        for plant, walls, goal, left in trips(told, 30):
            for x in standings(told, walls, walls, 2):
                point = from_numbers(x)
                paper = foe_paper(plant, walls, goal, left, point)
                for tier in paper[:-1] if paper else ():
                    for entry in tier:
                        for _, _, gust in entry[1]:
                            self.assertIn(tuple(numbers(gust)), gusts_of(plant))
