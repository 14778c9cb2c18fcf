import itertools
import unittest
from fractions import Fraction

from everygust.errors import TooGreat
from everygust.keeping import layers
from everygust.lean import lean
from everygust.levels import levels, levels_by
from everygust.modes import (
    best_train, common_fault, common_wishes, judge_mode_row, judge_mode_wish, mode_answer, mode_back, mode_keep_fault,
    mode_layers, mode_levels, mode_row_paper, mode_wish, train_book, train_level, trains)
from everygust.rows import joined
from everygust.weights import follows, is_bare, is_inside, judge_bare
from tests import referees
from tests.helpers import (
    ODD, corners_by_trying, cube, fr, is_within, number, numbers, polygon, product_of, pt, seeded, unchanged)
from tests.plants import (
    DRIFT, STILL, asked, from_numbers, gusts_of, has_points, is_back, moved, near, outs, points_within, some_bounded,
    some_plant, some_standing)
from tests.sighted import parts_of, weighed
from tests.test_books import is_row
from tests.test_keeping import DOUBLE, HALVE, TEN
from tests.test_levels import stretch
from tests.test_lots import rough
from tests.test_steps import never

R, WIDE = rough(-1, 1), rough(-9, 9)
TURNED = tuple(((pt(1),), (pt(sign),), ((),), pt(0), R, (0, ())) for sign in (1, -1))
PUSHED = tuple(((pt(1),), ((),), (pt(1),), pt(still), (0, ()), rough(-1, 1)) for still in (2, -2))
ALL = ((0, 0), (0, 1), (1, 0), (1, 1))
KINDS = ("heard", "hid")


def is_common(modes):
    m = modes[0][4][0]
    if any(plant[4][0] != m for plant in modes):
        return False
    return bool(corners_by_trying((m, tuple(row for plant in modes for row in plant[4][1]))))


def is_mode_back(modes, kind, x, room):
    """Whether a standing is in back of a room by a kind, found by trying."""
    if kind == "heard":
        return all(is_back(plant, x, room) for plant in modes)
    return has_points(modes[0][4][0], [row for plant in modes for row in asked(plant, x, room)])


def some_modes(told, n=None, many=None):
    """One to four modes of one n, perhaps with common wishes."""
    many = told.randint(1, 4) if many is None else many
    n = told.choice([1, 1, 2]) if n is None else n
    if told.random() < 0.3:
        return tuple(some_plant(told, n, None, told.randint(0, 1)) for _ in range(many))
    m = told.randint(0, 2 if many < 3 else 1)
    found = []
    for _ in range(many):
        plant = some_plant(told, n, m, told.randint(0, 1))
        if found and told.random() < 0.7:
            plant = plant[:4] + (found[0][4],) + plant[5:]
        found.append(plant)
    return tuple(found)


def kinds_of(modes):
    return KINDS if is_common(modes) else KINDS[:1]


def trips(told, many):
    """Modes with a kind, walls and a room."""
    found = []
    for modes, walls, room in [(TURNED, WIDE, R), (PUSHED, rough(-4, 4), rough(-3, 3)), ((DRIFT,), WIDE, R),
                               ((DRIFT, DOUBLE), TEN, R), (TURNED, never(1), R), (TURNED, WIDE, never(1)),
                               ((DRIFT, DRIFT[:1] + ((pt(-1),),) + DRIFT[2:]), WIDE, (1, (((1,), 1),)))]:
        found += [(modes, kind, walls, room) for kind in kinds_of(modes)]
    while len(found) < many:
        modes = some_modes(told)
        n = len(modes[0][0])
        walls = cube(n, -told.randint(2, 4), told.randint(2, 4))
        room = some_bounded(told, n, False) if told.random() < 0.5 else cube(n, -told.randint(1, 3), told.randint(1, 3))
        found.append((modes, told.choice(kinds_of(modes)), walls, room))
    return found


def row_referee(modes, kind, walls, below, row, value):
    n = walls[0]

    def is_part(part):
        if type(part) is not tuple or len(part) != 4 or any(type(k) is not int for k in part[:2]):
            return False
        if not 0 <= part[0] < len(modes) or not 0 <= part[1] < len(below[1]) or not referees.is_fraction(part[2]):
            return False
        return referees.is_list_of(part[3], modes[part[0]][5][0])
    good = type(value) is tuple and len(value) == 3 and type(value[0]) is tuple and all(map(is_part, value[0]))
    good = good and type(value[1]) is tuple and len(value[1]) == len(modes)
    good = good and all(referees.is_list_of(nu, len(plant[4][1])) for plant, nu in zip(modes, value[1]))
    if not good or not referees.is_list_of(value[2], len(walls[1])):
        return ("form",)
    parts, nus, lam = value
    found = [("part", q) for q, part in enumerate(parts) if part[2][0] <= 0]
    found += [("gust", q) for q, part in enumerate(parts) if not is_within(modes[part[0]][5], numbers(part[3]))]
    found += [("weight", m, j) for m, nu in enumerate(nus) for j, t in enumerate(nu) if t[0] < 0]
    found += [("wall", j) for j, t in enumerate(lam) if t[0] < 0]
    sizes = [plant[4][0] for plant in modes] if kind == "heard" else [modes[0][4][0]]

    def every(t):
        x, wishes, begin = t[:n], [], n
        for size in sizes:
            wishes.append(t[begin:begin + size])
            begin += size
        told = weighed(walls, x, lam)
        for m, (plant, nu) in enumerate(zip(modes, nus)):
            told += weighed(plant[4], wishes[m if kind == "heard" else 0], nu)
        for m, i, weight, w in parts:
            r, s = below[1][i]
            u = wishes[m if kind == "heard" else 0]
            told += number(weight) * (product_of(r, moved(modes[m], x, u, numbers(w))) - s)
        return told
    alone, unknown = parts_of(every, n + sum(sizes))
    begin = n
    for m, size in enumerate(sizes):
        found += [("wish", m, j) for j in range(size) if unknown[begin + j]]
        begin += size
    found += [("row", j) for j in range(n) if unknown[j] != row[0][j]]
    return referees.first(found + [("sum",)] * (-alone > row[1]))


def wish_referee(modes, kind, room, x, value):
    wishes = (value,) * len(modes) if kind == "hid" else value
    if type(wishes) is not tuple or len(wishes) != len(modes):
        return ("form",)
    if not all(referees.is_list_of(u, plant[4][0]) for plant, u in zip(modes, wishes)):
        return ("form",)
    found = [("wish", m) for m, u in enumerate(wishes) if not is_within(modes[m][4], numbers(u))]
    for m, u in enumerate(wishes):
        out = outs(modes[m], numbers(x), numbers(u), room)
        found += [("gust", m, from_numbers(out[0]))] if out else []
    return referees.first(found)


class TestCommon(unittest.TestCase):
    def test_by_hand(self):
        self.assertIsNone(unchanged(self, common_fault, TURNED))
        self.assertEqual(unchanged(self, common_wishes, TURNED), stretch(-1, 1))
        other = DRIFT[:4] + (rough(2, 3),) + DRIFT[5:]
        self.assertEqual(common_wishes((DRIFT, other)), stretch(2, 2))
        far = DRIFT[:4] + (rough(3, 4),) + DRIFT[5:]
        word, weights = unchanged(self, common_fault, (DRIFT, other, far))
        self.assertEqual(word, "bare")
        self.assertIsNone(judge_bare((1, DRIFT[4][1] + other[4][1] + far[4][1]), weights))
        self.assertEqual(common_fault((DRIFT, DRIFT, PUSHED[0], PUSHED[1])), ("many", 2))
        self.assertEqual(common_fault((PUSHED[0], far)), ("many", 1))
        self.assertIsNone(common_fault((far,)))
        self.assertEqual(common_wishes(PUSHED), (0, ()))

    def test_by_trying(self):
        told = seeded(491)
        words = {}
        for _ in range(60):
            modes = some_modes(told)
            fault = unchanged(self, common_fault, modes)
            words[fault and fault[0]] = True
            self.assertIs(fault is None, is_common(modes))
            if fault is None:
                self.assertEqual(common_wishes(modes), lean((modes[0][4][0], tuple(r for p in modes for r in p[4][1]))))
            elif fault[0] == "many":
                self.assertEqual(fault[1], [p[4][0] == modes[0][4][0] for p in modes].index(False))
            else:
                self.assertIsNone(judge_bare((modes[0][4][0], tuple(r for p in modes for r in p[4][1])), fault[1]))
        self.assertEqual(set(words), {None, "many", "bare"})


class TestBack(unittest.TestCase):
    def test_by_hand(self):
        self.assertEqual(unchanged(self, mode_back, TURNED, "heard", WIDE, R), stretch(-2, 2))
        self.assertEqual(unchanged(self, mode_back, TURNED, "hid", WIDE, R), stretch(-1, 1))
        self.assertEqual(mode_back(TURNED, "heard", rough(0, 9), R), stretch(0, 2))
        self.assertEqual(mode_back(TURNED, "hid", never(1), R), never(1))
        self.assertEqual(mode_back(TURNED, "hid", WIDE, (1, (((1,), 1),))), stretch(-9, 1))
        self.assertEqual(mode_back(TURNED, "heard", WIDE, (1, (((1,), 1),))), stretch(-9, 2))
        self.assertEqual(mode_back(TURNED, "heard", WIDE, (1, ())), stretch(-9, 9))
        self.assertEqual(mode_back(PUSHED, "heard", rough(-4, 4), rough(-4, 4)), stretch(-1, 1))
        self.assertEqual(unchanged(self, mode_levels, TURNED, "heard", WIDE, R, 2),
            (stretch(-1, 1), stretch(-2, 2), stretch(-3, 3)))
        self.assertEqual(mode_levels(TURNED, "hid", WIDE, R, 2), (stretch(-1, 1),) * 3)
        self.assertEqual(mode_levels(TURNED, "hid", WIDE, R, 0), (stretch(-1, 1),))

    def test_by_standings(self):
        told = seeded(492)
        words = {}
        for modes, kind, walls, room in trips(told, 60):
            found = unchanged(self, mode_back, modes, kind, walls, room)
            self.assertEqual(found, lean(found))
            words[len(modes), kind, is_bare(found)] = True
            for x in points_within(found, told, 2) + points_within(walls, told, 2)[-3:] + near(told, found, 1)[:6]:
                self.assertEqual(is_within(found, x), is_within(walls, x) and is_mode_back(modes, kind, x, room))
            for plant in modes:
                self.assertTrue(is_inside(found, mode_back((plant,), "heard", walls, room)))
            if kind == "hid":
                self.assertTrue(is_inside(found, mode_back(modes, "heard", walls, room)))
        self.assertTrue({(many, kind, False) for many in (1, 2, 3) for kind in KINDS} <= set(words), words)

    def test_one_mode(self):
        told = seeded(493)
        for _ in range(15):
            plant = some_plant(told, told.choice([1, 2]))
            walls, goal = cube(len(plant[0]), -4, 3), some_bounded(told, len(plant[0]), False)
            for kind in KINDS:
                self.assertEqual(mode_levels((plant,), kind, walls, goal, 2), levels(plant, walls, goal, 2))
                self.assertEqual(mode_layers((plant,), kind, walls, 2), layers(plant, walls, 2))

    def test_levels(self):
        told = seeded(494)
        for modes, kind, walls, goal in trips(told, 35):
            if not is_bare(goal) and not corners_by_trying(goal) or goal == (1, (((1,), 1),)):
                continue
            many = told.randint(0, 3)
            found = unchanged(self, mode_levels, modes, kind, walls, goal, many)
            self.assertEqual(found[0], lean(joined(walls, goal)))
            for one, other in zip(found, found[1:]):
                self.assertEqual(other, mode_back(modes, kind, walls, one))
            if kind == "hid":
                for one, other in zip(found, mode_levels(modes, "heard", walls, goal, many)):
                    self.assertTrue(is_inside(one, other))

    def test_mixes(self):
        # A wish of all modes that leads into a room with each mode does so with each mix.
        told = seeded(495)
        for modes, kind, walls, room in trips(told, 40):
            if kind == "heard":
                continue
            for x in points_within(mode_back(modes, kind, walls, room), told, 2)[:3]:
                u = numbers(mode_wish(modes, kind, room, from_numbers(x)))
                shares = [told.randint(0, 3) for _ in modes]
                shares[0] += 1
                there = [moved(plant, x, u, told.choice(points_within(plant[5], told, 2))) for plant in modes]
                mixed = [sum(Fraction(t, sum(shares)) * y[k] for t, y in zip(shares, there)) for k in range(len(x))]
                self.assertTrue(is_within(room, mixed))


class TestRows(unittest.TestCase):
    def test_by_hand(self):
        at = R[1].index(((1,), 1))
        paper = ((0, at, fr(1, 2), ()), (1, at, fr(1, 2), ()))
        zeros = (pt(0, 0), pt(0, 0))
        self.assertIsNone(judge_mode_row(TURNED, "hid", WIDE, R, ((1,), 1), (paper, zeros, pt(0, 0))))
        heard = (((0, at, fr(1), ()),), tuple(tuple(fr(int(row == ((-1,), 1) and not m)) for row in plant[4][1])
                                                for m, plant in enumerate(TURNED)), pt(0, 0))
        self.assertIsNone(judge_mode_row(TURNED, "heard", WIDE, R, ((1,), 2), heard))
        self.assertIsNone(unchanged(self, mode_row_paper, TURNED, "heard", WIDE, R, ((1,), 1)))
        self.assertIsNone(mode_row_paper(TURNED, "hid", WIDE, R, ((2,), 1)))

    def test_all_sorts(self):
        told = seeded(496)
        words, faults = {}, {}
        for modes, kind, walls, below in trips(told, 60):
            n = walls[0]
            found = mode_back(modes, kind, walls, below)
            rows = list(found[1][:3]) + [(tuple(2 * k for k in a), 2 * b + 1) for a, b in found[1][:1]]
            rows += [(tuple(told.randint(-2, 2) for _ in range(n)), told.randint(-3, 9)),
                ((0,) * n, told.randint(-1, 1))]
            for row in rows:
                args = (modes, kind, walls, below, row)
                paper = unchanged(self, mode_row_paper, *args)
                if is_bare(walls):
                    continue
                self.assertIs(paper is None, not follows(found, row), args)
                words[kind, paper is None, is_bare(found)] = True
                if paper is None:
                    continue
                self.assertIsNone(judge_mode_row(*args, paper))
                self.assertIsNone(row_referee(*args, paper))
                for _ in range(4):
                    value = referees.changed(told, paper, ODD)
                    fault = judge_mode_row(*args, value)
                    self.assertEqual(fault, row_referee(*args, value), (args, value))
                    faults[fault and fault[0]] = True
        self.assertTrue({(kind, False, bare) for kind in KINDS for bare in (True, False)} <= set(words), words)
        self.assertTrue({(kind, True, False) for kind in KINDS} <= set(words), words)
        self.assertTrue({"form", "part", "weight", "wall", "wish", "row", "sum"} <= set(faults), faults)

    def test_bare_walls(self):
        # Without a point of the walls there may be a paper or none; what is told is right.
        for walls in (never(1), rough(1, 0)):
            for row in (((1,), 1), ((0,), -1), ((-3,), -5)):
                for kind in KINDS:
                    paper = mode_row_paper(TURNED, kind, walls, R, row)
                    if paper is not None:
                        self.assertIsNone(judge_mode_row(TURNED, kind, walls, R, row, paper))
        self.assertIsNotNone(mode_row_paper(TURNED, "hid", rough(1, 0), R, ((-3,), -5)))
        self.assertIsNotNone(mode_row_paper(TURNED, "heard", never(1), R, ((0,), -5)))

    def judged(self, kind, row, value, fault):
        for judge in (judge_mode_row, row_referee):
            self.assertEqual(judge(PAIR, kind, TEN, R, row, value), fault, value)

    def test_each_fault(self):
        zeros, lam = (pt(0, 0), pt(0, 0)), pt(0, 0)
        one, two = (0, 0, fr(1, 2), pt(1)), (1, 0, fr(1, 2), pt(0))
        good = ((one, two), zeros, lam)
        self.judged("hid", ((1,), 1), good, None)
        self.judged("hid", ((1,), 0), good, ("sum",))
        for value, fault in [
                (((one, two[:3]), zeros, lam), ("form",)), (((one, (2,) + two[1:]), zeros, lam), ("form",)),
                (((one, (1, 2) + two[2:]), zeros, lam), ("form",)),
                (((one, (1, 0, (1, 2), ())), zeros, lam), ("form",)), (((one, two), zeros[:1], lam), ("form",)),
                (((one, two), (pt(0), pt(0)), lam), ("form",)),
                (((one, two), zeros, pt(0)), ("form",)), (((one, two), zeros), ("form",)),
                ([(one, two), zeros, lam], ("form",)),
                (((one[:3] + (pt(9),), (1, 0, fr(0), pt(0))), (pt(-1, 0), pt(0, 0)), lam), ("part", 1)),
                (((one, (1, 0, fr(-1), pt(9))), zeros, lam), ("part", 1)),
                (((one, two[:3] + (pt(9),)), (pt(-1, 0), pt(0, 0)), lam), ("gust", 1)),
                (((one, two), (pt(0, 0), pt(0, -1)), pt(-1, 0)), ("weight", 1, 1)),
                (((one, two), (pt(0, -2), pt(-1, 0)), lam), ("weight", 0, 1)),
                (((one, two), (pt(1, 0), pt(0, 0)), pt(0, -1)), ("wall", 1)),
                (((one,), zeros, pt(1, 0)), ("wish", 0, 0)), (((one, two), (pt(1, 0), pt(0, 1)), pt(1, 0)), ("row", 0)),
                (((one, two), (pt(0, 0), pt(0, 1)), pt(1, 0)), ("wish", 0, 0)),
                (((one, two), zeros, pt(1, 0)), ("row", 0)),
                (((one, two), zeros, pt(1, 1)), ("sum",)), (((one, two), (pt(1, 1), pt(0, 0)), lam), ("sum",)),
                (((two, one), zeros, lam), None), (((one, (1, 0, fr(1, 4), pt(0)), (1, 0, fr(1, 4), pt(0))), zeros,
                lam), None)]:
            self.judged("hid", ((1,), 1), value, fault)
        # Heard, each mode's wish must fall out by itself.
        self.judged("heard", ((1,), 1), good, ("wish", 0, 0))
        fit = ((one, two), (pt(0, Fraction(1, 2)), pt(0, 0)), lam)
        self.judged("heard", ((1,), 1), fit, ("wish", 1, 0))
        fit = ((one, two), (pt(0, Fraction(1, 2)), pt(Fraction(1, 2), 0)), lam)
        self.judged("heard", ((1,), 1), fit, ("sum",))
        self.judged("heard", ((1,), 2), fit, None)
        self.judged("heard", ((2,), 2), fit, ("row", 0))
        for odd in ODD:
            for value in [odd, (odd, zeros, lam), ((one, two), odd, lam), ((one, two), zeros, odd),
                    ((one, odd), zeros, lam),
                          ((one, two), (odd, pt(0, 0)), lam)] + [((one[:k] + (odd,) + one[k + 1:], two), zeros, lam)
                          for k in range(4)]:
                for kind in KINDS:
                    self.judged(kind, ((1,), 1), value, row_referee(PAIR, kind, TEN, R, ((1,), 1), value))


PAIR = ((DRIFT[:4] + (R, rough(-1, 1))), ((pt(1),), (pt(-1),), (pt(1),), pt(0), R, rough(0, 0)))


class TestWishes(unittest.TestCase):
    def test_by_hand(self):
        self.assertEqual(unchanged(self, mode_wish, TURNED, "hid", R, pt(1)), pt(0))
        self.assertEqual(unchanged(self, mode_wish, TURNED, "heard", R, pt(2)), (pt(-1), pt(1)))
        self.assertIsNone(mode_wish(TURNED, "hid", R, pt(2)))
        self.assertIsNone(mode_wish(TURNED, "heard", R, pt(3)))
        self.assertEqual(unchanged(self, mode_answer, PUSHED, rough(-3, 3), pt(0), 0, ()), None)
        self.assertEqual(mode_answer(PUSHED, rough(-2, 2), pt(0), 0, ()), pt(1))
        self.assertEqual(mode_answer(PUSHED, rough(-2, 2), pt(0), 1, ()), pt(-1))
        self.assertEqual(mode_answer(PUSHED, rough(-2, 2), pt(0), 1, ()), pt(-1))
        self.assertEqual(mode_answer(TURNED, R, pt(0), 1, pt(9)), ())
        self.assertIsNone(mode_answer(TURNED, rough(-9, 9), pt(0), 1, pt(9)))

    def test_all_sorts(self):
        told = seeded(497)
        words, faults = {}, {}
        for modes, kind, walls, room in trips(told, 60):
            n = walls[0]
            found = mode_back(modes, kind, walls, room)
            for x in points_within(found, told, 1)[-2:] + near(told, walls, 1)[:2] + [some_standing(told, n, 2)]:
                args = (modes, kind, room, from_numbers(x))
                wish = unchanged(self, mode_wish, *args)
                self.assertIs(wish is None, not is_mode_back(modes, kind, x, room))
                words[kind, wish is None] = True
                if wish is not None:
                    self.assertIsNone(judge_mode_wish(*args, wish))
                    self.assertIsNone(wish_referee(*args, wish))
                value = wish
                if value is None:
                    value = tuple(pt(*some_standing(told, p[4][0], 1)) for p in modes)
                    value = value[0] if kind == "hid" else value
                for _ in range(4):
                    changed = referees.changed(told, value, ODD)
                    fault = judge_mode_wish(*args, changed)
                    self.assertEqual(fault, wish_referee(*args, changed), (args, changed))
                    faults[fault and fault[0]] = True
                for m, plant in enumerate(modes):
                    u = some_standing(told, plant[4][0], 1)
                    out = outs(plant, x, u, room)
                    self.assertEqual(mode_answer(modes, room, from_numbers(x), m, from_numbers(u)), from_numbers(out[0])
                        if out else None)
        self.assertEqual(len(words), 4)
        self.assertTrue({"form", "wish", "gust"} <= set(faults), faults)

    def test_each_fault(self):
        half = Fraction(1, 2)
        for kind, value, fault in [
                ("heard", (pt(-half), pt(0)), None), ("heard", (pt(0),), ("form",)), ("heard", pt(0), ("form",)),
                ("heard", (pt(0), ()), ("form",)), ("heard", [pt(0), pt(0)], ("form",)),
                ("heard", (pt(1), pt(2)), ("wish", 1)),
                ("heard", (pt(3), pt(2)), ("wish", 0)), ("heard", (pt(-half), pt(-1)), ("gust", 1, pt(0))),
                ("heard", (pt(1), pt(-1)), ("gust", 0, pt(1))), ("hid", pt(-half), None), ("hid", pt(0, 0), ("form",)),
                ("hid", (pt(0), pt(0)), ("form",)), ("hid", pt(2), ("wish", 0)), ("hid", pt(-1), ("gust", 0, pt(-1))),
                ("hid", pt(1), ("gust", 0, pt(1))), ("hid", [(0, 1)], ("form",))]:
            for judge in (judge_mode_wish, wish_referee):
                self.assertEqual(judge(PAIR, kind, R, pt(half), value), fault, (kind, value))
        for odd in ODD:
            for value in (odd, (odd, pt(0)), (pt(0), odd)):
                for kind in KINDS:
                    self.assertEqual(judge_mode_wish(PAIR, kind, R, pt(0), value),
                        wish_referee(PAIR, kind, R, pt(0), value))


class TestKept(unittest.TestCase):
    def test_by_hand(self):
        self.assertIsNone(unchanged(self, mode_keep_fault, TURNED, "hid", WIDE, R))
        self.assertEqual(mode_keep_fault(TURNED, "hid", rough(0, 9), R), ("wall", pt(-1)))
        self.assertEqual(mode_keep_fault(PUSHED, "heard", WIDE, R), ("lost", pt(-1)))
        self.assertEqual(mode_keep_fault(PUSHED, "heard", rough(-9, 0), R), ("wall", pt(1)))
        self.assertIsNone(mode_keep_fault(TURNED, "hid", never(1), never(1)))
        self.assertEqual(unchanged(self, mode_layers, PUSHED, "heard", rough(-4, 4), 4), (
            "bare", (stretch(-4, 4), stretch(-1, 1), never(1))))
        self.assertEqual(mode_layers(PUSHED, "heard", rough(-4, 4), 1), ("open", (stretch(-4, 4), stretch(-1, 1))))
        self.assertEqual(mode_layers(TURNED, "hid", WIDE, 3), ("closed", (stretch(-9, 9),)))
        self.assertEqual(mode_layers(TURNED, "hid", WIDE, 0), ("open", (stretch(-9, 9),)))
        self.assertEqual(mode_layers(TURNED, "hid", never(1), 0), ("bare", (never(1),)))
        mixed = (HALVE, DOUBLE)
        self.assertEqual(mode_layers(mixed, "heard", TEN, 1),
            ("open", (stretch(-10, 10), stretch(Fraction(-11, 2), Fraction(11, 2)))))

    def test_what_holds(self):
        told = seeded(498)
        words = {}
        for modes, kind, walls, room in trips(told, 60):
            if room == (1, (((1,), 1),)):
                continue
            ends = corners_by_trying(room)
            found = [("wall", from_numbers(x)) for x in ends if not is_within(walls, x)]
            found += [("lost", from_numbers(x)) for x in ends if not is_mode_back(modes, kind, x, room)]
            fault = unchanged(self, mode_keep_fault, modes, kind, walls, room)
            self.assertEqual(fault, referees.first(found))
            words[fault and fault[0]] = True
            most = told.randint(0, 3)
            word, rooms = unchanged(self, mode_layers, modes, kind, walls, most)
            every = mode_levels(modes, kind, walls, walls, most + 1)
            self.assertEqual(rooms, every[:len(rooms)])
            bare = [i for i in range(most + 1) if is_bare(every[i])]
            closed = [i for i in range(most) if every[i] == every[i + 1]]
            self.assertEqual((word, len(rooms) - 1), ("bare", bare[0]) if bare else ("closed", closed[0])
                if closed else ("open", most))
            words[word] = True
            if fault is None:
                self.assertTrue(all(is_inside(room, one) for one in rooms))
            if word == "closed":
                self.assertIsNone(mode_keep_fault(modes, kind, walls, rooms[-1]))
        self.assertEqual(set(words), {None, "wall", "lost", "bare", "closed", "open"})


class TestTrains(unittest.TestCase):
    def test_by_hand(self):
        self.assertEqual(unchanged(self, trains, PUSHED, ALL, 2), [(0, 0), (0, 1), (1, 0), (1, 1)])
        self.assertEqual(trains(PUSHED, (), 1), [(0,), (1,)])
        self.assertEqual(trains(PUSHED, (), 2), [])
        self.assertEqual(trains(PUSHED, (), 0), [()])
        self.assertEqual(trains(PUSHED, ((0, 1),), 2), [(0, 1)])
        self.assertEqual(trains(PUSHED, ((0, 1),), 3), [])
        self.assertEqual(trains(PUSHED, ((0, 1), (1, 0)), 4), [(0, 1, 0, 1), (1, 0, 1, 0)])
        walls, goal = rough(-4, 4), rough(-3, 3)
        self.assertIsNone(unchanged(self, best_train, PUSHED, ALL, walls, goal, 2, pt(2)))
        self.assertEqual(best_train(PUSHED, ALL, walls, goal, 2, pt(-3)), (0, 0))
        self.assertEqual(best_train(PUSHED, ALL, walls, goal, 2, pt(1)), (0, 1))
        self.assertEqual(best_train(PUSHED, ((1, 0),), walls, goal, 2, pt(1)), (1, 0))
        self.assertIsNone(best_train(PUSHED, ((1, 0),), walls, goal, 3, pt(1)))
        self.assertEqual(best_train(PUSHED, (), walls, goal, 0, pt(3)), ())
        self.assertIsNone(best_train(PUSHED, (), walls, goal, 0, pt(4)))
        self.assertEqual(unchanged(self, train_book, PUSHED, ALL, walls, goal, 0), (((), stretch(-3, 3)),))
        self.assertEqual(train_book(PUSHED, ALL, walls, never(1), 2), ())
        self.assertEqual(train_book(PUSHED, ((0, 1),), walls, goal, 2), (((0, 1), stretch(-1, 1)),))
        self.assertEqual(unchanged(self, train_level, PUSHED, walls, goal, (0,)), stretch(-4, 0))
        self.assertEqual(train_level(PUSHED, walls, goal, ()), stretch(-3, 3))

    def test_what_holds(self):
        told = seeded(499)
        for _ in range(30):
            modes = some_modes(told, told.choice([1, 2]), told.randint(1, 3))
            n, count = len(modes[0][0]), len(modes)
            pairs = sorted(pair for pair in itertools.product(range(count), repeat=2) if told.random() < 0.6)
            many = told.randint(0, 3)
            walls, goal = cube(n, -4, 4), some_bounded(told, n, False)
            due = [train for train in itertools.product(range(count), repeat=many)
                   if all(pair in pairs for pair in zip(train, train[1:]))]
            self.assertEqual(unchanged(self, trains, modes, tuple(pairs), many), due)
            told_levels = []
            for train in due:
                course = tuple((modes[m], "early") for m in reversed(train))
                told_levels.append((train, levels_by(course, walls, goal)[-1]))
                self.assertEqual(train_level(modes, walls, goal, train), told_levels[-1][1])
            book = unchanged(self, train_book, modes, tuple(pairs), walls, goal, many)
            self.assertEqual(book, tuple(pair for pair in told_levels if not is_bare(pair[1])))
            for x in [some_standing(told, n, 2)] + [x for _, room in book[-2:] for x in points_within(room, told, 1)]:
                best = [train for train, room in told_levels if is_within(room, x)]
                self.assertEqual(unchanged(self, best_train, modes, tuple(pairs), walls, goal, many, from_numbers(x)),
                                 best[0] if best else None)

    def test_too_many(self):
        modes = PUSHED * 2
        lead = tuple(itertools.product(range(4), repeat=2))
        self.assertEqual(len(trains(modes, lead, 3)), 64)
        walls = rough(-4, 4)
        for many in (4, 5):
            self.assertRaises(TooGreat, trains, modes, lead, many)
            self.assertRaises(TooGreat, train_book, modes, lead, walls, walls, many)
            self.assertRaises(TooGreat, best_train, modes, lead, walls, walls, many, pt(0))
        some = [(0, 0), (0, 1), (0, 2), (1, 0), (1, 1), (1, 2), (2, 0), (2, 1), (2, 2)]
        self.assertEqual([len(trains(modes, tuple(some), many)) for many in (1, 2, 3)], [4, 9, 27])
        self.assertRaises(TooGreat, trains, modes, tuple(some), 4)
        # Just 64 trains of four members, and one more.
        fits = ((0, 0), (0, 1), (0, 2), (0, 3), (1, 0), (1, 1), (1, 2), (2, 2), (3, 1), (3, 2), (3, 3))
        more = ((0, 0), (0, 1), (0, 3), (1, 0), (2, 0), (2, 1), (3, 0), (3, 1), (3, 2), (3, 3))
        for pairs, count in ((fits, 64), (more, 65)):
            every = itertools.product(range(4), repeat=4)
            self.assertEqual(sum(all(pair in pairs for pair in zip(t, t[1:])) for t in every), count)
        self.assertEqual(len(trains(modes, fits, 4)), 64)
        self.assertRaises(TooGreat, trains, modes, more, 4)


class TestTooGreat(unittest.TestCase):
    def test_rooms(self):
        modes, point = (STILL, STILL), pt(1, 1)
        great, fits = polygon(81), polygon(80)
        self.assertEqual(mode_levels(modes, "hid", fits, fits, 2), (lean(fits),) * 3)
        walls = cube(2, -9999, 9999)
        for kind in KINDS:
            self.assertRaises(TooGreat, mode_back, modes, kind, great, walls)
            self.assertRaises(TooGreat, mode_back, modes, kind, walls, great)
            self.assertRaises(TooGreat, mode_levels, modes, kind, great, walls, 0)
            self.assertRaises(TooGreat, mode_layers, modes, kind, great, 0)
            self.assertRaises(TooGreat, mode_keep_fault, modes, kind, walls, great)
            # The fault is told of what is beyond the walls only behind that.
            self.assertRaises(TooGreat, mode_keep_fault, modes, kind, great, cube(2, -9, 9999))
            self.assertEqual(mode_wish(modes, kind, great, point), ((), ()) if kind == "heard" else ())
            self.assertIsNotNone(mode_row_paper(modes, kind, walls, great, great[1][0]))
        push = ((pt(1, 0), pt(0, 1)), (pt(1, 0), pt(0, 1)), ((), ()), pt(0, 0), great, (0, ()))
        self.assertRaises(TooGreat, common_wishes, (push, push))
        self.assertEqual(common_wishes((push[:4] + (fits,) + push[5:],)), lean(fits))

    def test_one_mode_alone(self):
        # Heard, the room of one mode is too great by itself, though both together are not.
        great, walls = polygon(81), cube(2, -9999, 9999)
        stay = STILL[:3] + (pt(0, 0),) + STILL[4:]
        away = STILL[:3] + (pt(10 ** 6, 0),) + STILL[4:]
        self.assertRaises(TooGreat, mode_back, (stay, away), "heard", walls, great)
        self.assertEqual(mode_back((stay, away), "hid", walls, great), never(2))

    def test_trains(self):
        great, walls = polygon(81), cube(2, -9999, 9999)
        stay, spin = STILL, ((pt(0, 0), pt(0, 0)),) + STILL[1:]
        for call, args in ((train_book, (2,)), (best_train, (2, pt(0, 0)))):
            self.assertRaises(TooGreat, call, (stay, stay), ALL, walls, great, *args)
            self.assertRaises(TooGreat, call, (spin, stay), ALL, walls, great, *args)
        self.assertRaises(TooGreat, train_level, (stay, spin), walls, great, (0,))
        # Where there are no trains nothing is too great.
        self.assertEqual(train_book((stay, spin), (), walls, great, 2), ())
        self.assertIsNone(best_train((stay, spin), (), walls, great, 2, pt(0, 0)))
        self.assertRaises(TooGreat, train_book, (stay, spin), (), walls, great, 0)
        # What is taken to the goal by the second mode has one corner cut off by the walls: one row more.
        fits, cut = polygon(80), (2, walls[1] + (((-1, -1), 0),))
        both = (STILL, STILL[:3] + (pt(1, 0),) + STILL[4:])
        self.assertEqual(best_train(both, (), cut, fits, 1, pt(1, 1)), (0,))
        self.assertRaises(TooGreat, best_train, both, (), cut, fits, 1, pt(-1, 1))
        self.assertRaises(TooGreat, train_book, both, (), cut, fits, 1)
        self.assertRaises(TooGreat, train_level, both, cut, fits, (1,))
        self.assertEqual(len(train_level(both, cut, fits, (0, 0))[1]), 80)
        self.assertEqual(len(train_book(both[:1] * 2, (), cut, fits, 1)), 2)

    def test_just_within_in_time(self):
        told = seeded(500)

        def some():
            return Fraction(told.randint(-999, 999), 997)
        for n, count in ((2, 4), (3, 2)):
            m = 4 - n
            modes = tuple((
                tuple(pt(*[some() for _ in range(n)]) for _ in range(n)),
                tuple(pt(*[some() for _ in range(m)]) for _ in range(n)),
                tuple(pt(some() / 9, some() / 9) for _ in range(n)), pt(*[0] * n), cube(m, -3, 3), cube(2))
                for _ in range(count))
            walls, goal = cube(n, -20, 20), cube(n, -9, 9)
            for kind in KINDS:
                found = mode_levels(modes, kind, walls, goal, 2)
                paper = mode_row_paper(modes, kind, walls, found[1], found[2][1][0])
                self.assertIsNone(judge_mode_row(modes, kind, walls, found[1], found[2][1][0], paper))
            lead = tuple(itertools.product(range(count), repeat=2))
            self.assertGreater(len(train_book(modes, lead, walls, goal, 3)), 1)
            self.assertEqual(len(gusts_of(modes[0])), 4)
            self.assertTrue(is_row(n, found[1][1][0]))
