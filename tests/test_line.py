import unittest
from fractions import Fraction

from everygust.keeping import judge_keep, keep_fault, keep_paper
from everygust.lean import lean
from everygust.line import ends, judge_stretch, kept_stretch, stretch_paper
from everygust.rows import boxed
from everygust.weights import bare_paper, is_bare, judge_bare
from tests import referees
from tests.helpers import ODD, corners_by_trying, fr, number, pt, seeded, unchanged
from tests.plants import DRIFT, gusts_of, is_back, wishes_of
from tests.test_keeping import DOUBLE, HALVE, TEN
from tests.test_levels import stretch
from tests.test_lots import rough
from tests.test_steps import never


def swept(matrix, corners):
    told = [sum((number(k) * x for k, x in zip(matrix[0], corner)), Fraction(0)) for corner in corners]
    return min(told), max(told)


def numbers_of(plant):
    """a, c, m0, m1, d0, d1 of a plant of one coordinate."""
    wished, blown = swept(plant[1], wishes_of(plant)), swept(plant[2], gusts_of(plant))
    return (number(plant[0][0][0]), number(plant[3][0])) + wished + blown


def next_layer(plant, walls, layer):
    """The standings of the walls from which a wish leads into a stretch, as a pair, or None."""
    a, c, m0, m1, d0, d1 = numbers_of(plant)
    if layer is None or layer[1] - d1 < layer[0] - d0:
        return None
    low, high = layer[0] - d0 - m1 - c, layer[1] - d1 - m0 - c
    if a == 0:
        return walls if low <= 0 <= high else None
    told = sorted((low / a, high / a))
    low, high = max(told[0], walls[0]), min(told[1], walls[1])
    return (low, high) if low <= high else None


def is_lost(plant, walls, x, most=90):
    """Whether a standing is beyond one of the layers up to number most."""
    layer = walls
    for _ in range(most):
        if layer is None or not layer[0] <= x <= layer[1]:
            return True
        layer = next_layer(plant, walls, layer)
    return False


def row_of(a, b):
    scale = 1
    for k in list(a) + [b]:
        scale *= Fraction(k).denominator
    return tuple(int(k * scale) for k in a), int(b * scale)


def rows_due(plant, walls):
    a, c, m0, m1, d0, d1 = numbers_of(plant)
    p, q = c + d0 + m1, c + d1 + m0
    rows = [((-1, 0), -walls[0]), ((0, 1), walls[1]), ((1, -1), 0), ((1, -1), d0 - d1)]
    return rows + ([((1 - a, 0), p), ((0, a - 1), -q)] if a >= 0 else [((1, -a), p), ((a, -1), -q)])


def some_line(told, a=None):
    """A plant of one coordinate."""
    if a is None:
        a = told.choice([-3, Fraction(-3, 2), -1, Fraction(-1, 2), 0, Fraction(1, 3), 1, Fraction(4, 3), 2, 3])
    wishes = told.choice([rough(-1, 1), rough(-2, 1), rough(0, 0), rough(1, 2), (0, ())])
    gusts = told.choice([rough(-1, 1), rough(0, 0), rough(0, 1), (0, ())])
    by_wish = (pt(told.choice([1, 2, -1, Fraction(1, 2)])),) if wishes[0] else ((),)
    by_gust = (pt(told.choice([1, Fraction(1, 2), -1])),) if gusts[0] else ((),)
    return ((pt(a),), by_wish, by_gust, pt(Fraction(told.randint(-3, 3), 2)), wishes, gusts)


def some_line_walls(told):
    low = told.randint(-6, 4)
    return rough(low, low + told.choice([-1, 0, 1, 3, 6, 9, 12]))


def line_referee(plant, walls, value):
    room = ends(plant, walls)
    many = len(room[1])
    if referees.told(value, "bare", 2) and referees.is_weights(value[1], many):
        return referees.judge_bare(room, value[1])
    good = referees.told(value, "kept", 6) and all(referees.is_fraction(k) for k in value[1:3])
    good = good and number(value[1]) <= number(value[2])
    good = good and referees.is_weights(value[4], many) and referees.is_weights(value[5], many)
    if not good:
        return ("form",)
    fault = judge_keep(plant, walls, boxed((value[1],), (value[2],)), ("kept", value[3]))
    if fault is not None:
        return fault
    found = []
    for word, weights, form, most in (("low", value[4], [-1, 0], -number(value[1])),
            ("high", value[5], [0, 1], number(value[2]))):
        told_form, told_sum = referees.sums(room, weights)
        found += [(word,)] * (told_form != form or told_sum > most)
    return referees.first(found)


class TestEnds(unittest.TestCase):
    def test_by_hand(self):
        self.assertEqual(unchanged(self, ends, DOUBLE, TEN), (2, (
            ((-1, 0), 10), ((0, 1), 10), ((1, -1), 0), ((1, -1), 0), ((-1, 0), 1), ((0, 1), 1))))
        self.assertEqual(ends(HALVE, TEN), (2, (
            ((-1, 0), 10), ((0, 1), 10), ((1, -1), 0), ((1, -1), -2), ((1, 0), -2), ((0, -1), -2))))
        turn = ((pt(Fraction(-3, 2)),),) + HALVE[1:]
        self.assertEqual(ends(turn, TEN)[1][4:], (((2, 3), -2), ((-3, -2), -2)))
        self.assertEqual(ends(DRIFT, TEN)[1][4:], (((0, 0), 0), ((0, 0), 0)))
        self.assertEqual(ends(((pt(1),), (pt(0),), (pt(1),)) + DRIFT[3:], TEN)[1][4:], (((0, 0), -1), ((0, 0), -1)))
        self.assertEqual(ends(((pt(0),),) + DRIFT[1:], TEN)[1][4:], (((1, 0), 1), ((0, -1), 1)))
        self.assertEqual(ends(DOUBLE, never(1)), never(2))
        self.assertEqual(ends(DOUBLE, rough(1, 0)), never(2))
        wide = (1, (((2,), 7), ((1,), 9), ((-3,), -1), ((-1,), 5)))
        self.assertEqual(ends(DOUBLE, wide)[1][:2], (((-3, 0), -1), ((0, 2), 7)))

    def test_points_are_kept_stretches(self):
        told = seeded(411)
        kinds = {}
        for _ in range(60):
            plant, walls = some_line(told), some_line_walls(told)
            room = unchanged(self, ends, plant, walls)
            corners = corners_by_trying(walls)
            if not corners:
                self.assertEqual(room, never(2))
                continue
            due = rows_due(plant, (corners[0][0], corners[-1][0]))
            self.assertEqual(len(room[1]), len(due))
            for (a, b), (c, d) in zip(room[1], due):
                if any(c):
                    scale = [Fraction(x) / y for x, y in zip(a, c) if y][0]
                    self.assertTrue(scale > 0 and list(a) == [scale * k for k in c] and b == scale * d)
                else:
                    self.assertEqual((a, b), ((0, 0), 0 if d >= 0 else -1))
            for _ in range(12):
                low, high = sorted(Fraction(told.randint(-14, 14), 2) for _ in range(2))
                kept = keep_fault(plant, walls, boxed(pt(low), pt(high))) is None
                self.assertEqual(kept, all(x * low + y * high <= b for (x, y), b in due), (plant, walls, low, high))
                kinds[kept] = True
        self.assertEqual(len(kinds), 2)


class TestStretch(unittest.TestCase):
    def test_by_hand(self):
        self.assertEqual(unchanged(self, kept_stretch, DOUBLE, TEN), stretch(-1, 1))
        self.assertEqual(kept_stretch(HALVE, TEN), stretch(-10, 10))
        self.assertEqual(kept_stretch(HALVE, rough(-2, 5)), stretch(-2, 5))
        self.assertEqual(kept_stretch(HALVE, rough(-1, 1)), never(1))
        self.assertEqual(kept_stretch(DOUBLE, rough(0, 0)), stretch(0, 0))
        self.assertEqual(kept_stretch(DOUBLE, rough(2, 9)), never(1))
        self.assertEqual(kept_stretch(DOUBLE, never(1)), never(1))
        self.assertEqual(kept_stretch(DRIFT, rough(-7, 9)), stretch(-7, 9))
        self.assertEqual(kept_stretch(DRIFT, rough(0, 1)), never(1))
        turn = ((pt(-2),),) + DOUBLE[1:]
        self.assertEqual(kept_stretch(turn, TEN), stretch(-1, 1))
        self.assertEqual(kept_stretch(((pt(-1),),) + DOUBLE[1:], rough(-2, 5)), stretch(-2, 3))
        self.assertEqual(kept_stretch(((pt(0),),) + DRIFT[1:], rough(-5, 9)), stretch(-5, 9))
        # With a wish of two coordinates and one gust of two.
        wide = ((pt(2),), (pt(1, 2),), (pt(1, -1),), pt(0), (2, (((1, 0), 1), ((-1, 0), 1), ((0, 1), 1), ((0, -1), 1))),
                (2, (((1, 0), 1), ((-1, 0), 0), ((0, 1), 0), ((0, -1), 0))))
        self.assertEqual(kept_stretch(wide, TEN), stretch(-3, 2))

    def test_by_standings(self):
        told = seeded(412)
        kinds = {}
        for _ in range(120):
            plant, walls = some_line(told), some_line_walls(told)
            found = unchanged(self, kept_stretch, plant, walls)
            self.assertEqual(found, lean(found))
            corners = corners_by_trying(walls)
            told_walls = (corners[0][0], corners[-1][0]) if corners else None
            a = number(plant[0][0][0])
            kinds[is_bare(found), (a > 1) - (a < -1), a == 0] = True
            if is_bare(found):
                for x in range(-8, 20):
                    self.assertTrue(told_walls is None or is_lost(plant, told_walls, Fraction(x, 2)), (plant, walls, x))
                continue
            low, high = [number(x[0]) for x in (keep_paper(plant, walls, found)[1][0][0],
                keep_paper(plant, walls, found)[1][-1][0])]
            for k in range(5):
                x = low + (high - low) * Fraction(k, 4)
                self.assertTrue(is_back(plant, [x], found))
                self.assertFalse(is_lost(plant, told_walls, x, 6))
            for x in (low - Fraction(1, 50), high + Fraction(1, 50)):
                self.assertTrue(is_lost(plant, told_walls, x), (plant, walls, x))
        self.assertTrue({(False, 0, True), (False, 0, False), (False, 1, False), (False, -1, False), (True, 0, False),
                         (True, 1, False), (True, -1, False)} <= set(kinds), kinds)


class TestPapers(unittest.TestCase):
    def test_all_sorts(self):
        told = seeded(413)
        words, faults = {}, {}
        trips = [(DOUBLE, TEN), (HALVE, TEN), (HALVE, rough(-1, 1)), (DOUBLE, never(1)), (DRIFT, rough(3, 3))]
        for plant, walls in trips + [(some_line(told), some_line_walls(told)) for _ in range(60)]:
            paper = unchanged(self, stretch_paper, plant, walls)
            found = kept_stretch(plant, walls)
            words[paper[0]] = True
            self.assertIs(paper[0] == "bare", is_bare(found))
            self.assertIsNone(judge_stretch(plant, walls, paper))
            if paper[0] == "kept":
                self.assertEqual(found, lean(boxed((paper[1],), (paper[2],))))
            for _ in range(5):
                value = referees.changed(told, paper, ODD)
                fault = judge_stretch(plant, walls, value)
                self.assertEqual(fault, line_referee(plant, walls, value), (plant, walls, value))
                faults[fault and fault[0]] = True
        self.assertEqual(sorted(words), ["bare", "kept"])
        self.assertTrue({"form", "lacks", "low", "high", "sum"} <= set(faults), faults)

    def judged(self, plant, walls, value, fault):
        self.assertEqual(judge_stretch(plant, walls, value), fault, value)
        self.assertEqual(line_referee(plant, walls, value), fault, value)

    def test_each_fault(self):
        paper = stretch_paper(DOUBLE, TEN)
        _, low, high, pairs, lows, highs = paper
        inner = tuple((pt(x), pt(0)) for x in (Fraction(-1, 2), Fraction(1, 2)))
        inner = ((inner[0][0], pt(1)), (inner[1][0], pt(-1)))
        zeros = ((0, 1),) * 6
        for value, fault in [
                (paper, None), (("kept", high, low) + paper[3:], ("form",)),
                (("kept", low, high, pairs, lows), ("form",)),
                (("kept", low, high, pairs, lows[:5], highs), ("form",)),
                (("kept", low, high, pairs, lows, highs + ((0, 1),)), ("form",)),
                (("kept", low, high, pairs[:1], lows, highs), ("lacks", (high,))),
                (("kept", low, high, pairs[::-1], lows, highs), ("spare", 1)),
                (("kept", low, high, (pairs[0], (pt(1), pt(-2))), lows, highs), ("wish", 1)),
                (("kept", low, high, (pairs[0], (pt(1), pt(0))), lows, highs), ("out", 1, pt(0))),
                (("kept", low, high, pairs, highs, highs), ("low",)),
                (("kept", low, high, pairs, lows, lows), ("high",)),
                (("kept", low, high, pairs, zeros, zeros), ("low",)),
                (("kept", low, high, pairs, lows, zeros), ("high",)),
                (("kept", fr(-1, 2), fr(1, 2), inner, lows, highs), ("low",)),
                (("kept", low, high, pairs, ((-1, 1),) + lows[1:], highs), ("form",)),
                (("kept", low, high, ((pt(-1),),), lows, highs), ("form",)), (("bare", zeros), ("bound",)),
                (("bare", ((1, 1),) + zeros[1:]), ("sum", 0)), (("bare", ((-1, 1),) + zeros[1:]), ("form",)),
                (("bare", zeros[1:]), ("form",)), (["kept"], ("form",)), (("lost",) + paper[1:], ("form",))]:
            self.judged(DOUBLE, TEN, value, fault)
        # A wall is left by a stretch that is kept elsewhere.
        self.judged(DOUBLE, rough(0, 1), paper, ("wall", 0))
        wide = ("kept", fr(-11), fr(11), ((pt(-11), pt(0)), (pt(11), pt(0))), zeros, zeros)
        self.judged(HALVE, TEN, wide, ("wall", 0))
        # A stretch may be less than the greatest one in one end alone.
        half = boxed(pt(-2), pt(10))
        told = ("kept", fr(-2), fr(10), keep_paper(HALVE, TEN, half)[1]) + stretch_paper(HALVE, TEN)[4:]
        self.judged(HALVE, TEN, told, ("low",))
        half = boxed(pt(-10), pt(2))
        told = ("kept", fr(-10), fr(2), keep_paper(HALVE, TEN, half)[1]) + stretch_paper(HALVE, TEN)[4:]
        self.judged(HALVE, TEN, told, ("high",))

    def test_bare(self):
        paper = stretch_paper(HALVE, rough(-1, 1))
        room = ends(HALVE, rough(-1, 1))
        self.assertEqual(paper[0], "bare")
        self.assertIsNone(judge_bare(room, paper[1]))
        self.judged(HALVE, rough(-1, 1), ("bare", bare_paper(room)), None)
        self.judged(HALVE, rough(-1, 1), ("bare", tuple(fr(number(k) / 2) for k in paper[1])), ("bound",))
        self.assertEqual(stretch_paper(DOUBLE, never(1)), ("bare", ((1, 1),)))

    def test_anything(self):
        good = stretch_paper(DOUBLE, TEN)
        for odd in ODD:
            for value in [odd, ("bare", odd)] + [good[:k] + (odd,) + good[k + 1:] for k in range(1, 6)]:
                self.judged(DOUBLE, TEN, value, line_referee(DOUBLE, TEN, value))
