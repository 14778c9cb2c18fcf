import itertools
import unittest
from fractions import Fraction

from everygust.blind import blind_room, blind_row, judge_blind, judge_for_all, wish_for_all, wishes_for_all
from everygust.errors import Bare, TooGreat, Unbounded
from everygust.lean import lean
from everygust.weights import is_bare
from tests import referees
from tests.helpers import (
    ODD, corners_by_trying, cube, is_within, number, numbers, polygon, product_of, pt, seeded, unchanged)
from tests.plants import (
    DRIFT, STILL, from_numbers, gusts_of, moved, near, points_within, some_bounded, some_plant, some_standing)
from tests.sighted import HALF, WALK, parts_of, weighed
from tests.test_levels import stretch
from tests.test_lots import rough
from tests.test_steps import never

WALLS, GOAL = rough(-2, 2), rough(-1, 1)


def broken_rows(room, x):
    return [i for i, (a, b) in enumerate(room[1]) if product_of(a, x) > b]


def good_for_all(plant, room, target, u):
    """Whether a wish leads each corner of a room into a target, whatever corner of the gusts blows."""
    return is_within(plant[4], u) and not outs_of(plant, room, target, u)


def outs_of(plant, room, target, u):
    """The ascending numbers of the target's rows that some corner and gust break behind a wish."""
    found = set()
    for x in corners_by_trying(room):
        for w in gusts_of(plant):
            found.update(broken_rows(target, moved(plant, x, u, w)))
    return sorted(found)


def is_wish_block(plant, target, value):
    _, parts, nu = value
    if type(parts) is not tuple or not referees.is_weights(nu, len(plant[4][1])):
        return False
    ahead = -1
    for part in parts:
        if type(part) is not tuple or len(part) != 4 or type(part[0]) is not int:
            return False
        if not ahead < part[0] < len(target[1]) or not referees.is_fraction(part[1]) or part[1][0] <= 0:
            return False
        if not referees.is_list_of(part[2], len(plant[0])) or not referees.is_list_of(part[3], plant[5][0]):
            return False
        ahead = part[0]
    return True


def block_sum_faults(plant, target, parts, nu):
    def every(u):
        found = weighed(plant[4], u, nu)
        for i, t, x, w in parts:
            f, g = target[1][i]
            found += number(t) * (product_of(f, moved(plant, numbers(x), u, numbers(w))) - g)
        return found
    alone, unknown = parts_of(every, plant[4][0])
    return [("unknown",)] * any(unknown) + [("sum",)] * (alone <= 0)


def for_all_referee(plant, room, target, value):
    if referees.told(value, "wish", 2) and referees.is_list_of(value[1], plant[4][0]):
        u = numbers(value[1])
        found = [("wish",)] * (not is_within(plant[4], u))
        return referees.first(found + [("out", i) for i in outs_of(plant, room, target, u)])
    if not referees.told(value, "block", 3) or not is_wish_block(plant, target, value):
        return ("form",)
    found = [("standing", k) for k, part in enumerate(value[1]) if not is_within(room, numbers(part[2]))]
    found += [("gust", k) for k, part in enumerate(value[1]) if not is_within(plant[5], numbers(part[3]))]
    return referees.first(found + block_sum_faults(plant, target, value[1], value[2]))


def run_by(plant, x, wishes, winds):
    """The standings of a run by wishes and gusts."""
    found = [list(x)]
    for u, w in zip(wishes, winds):
        found.append(moved(plant, found[-1], u, w))
    return found


def rows_at(walls, goal, many, j):
    return walls[1] + goal[1] if j == many else walls[1]


def blind_outs(plant, room, walls, goal, wishes):
    """The ascending (j, i) of the rows that some corner and gusts break."""
    found, many = set(), len(wishes)
    for x in corners_by_trying(room):
        for winds in itertools.product(gusts_of(plant), repeat=many):
            for j, standing in enumerate(run_by(plant, x, wishes, winds)):
                rows = rows_at(walls, goal, many, j)
                found.update((j, i) for i in broken_rows((len(x), rows), standing))
    return sorted(found)


def is_blind_part(plant, walls, goal, many, part):
    if type(part) is not tuple or len(part) != 5 or any(type(k) is not int for k in part[:2]):
        return False
    if not 0 <= part[0] <= many or not 0 <= part[1] < len(rows_at(walls, goal, many, part[0])):
        return False
    if not referees.is_fraction(part[2]) or part[2][0] <= 0 or not referees.is_list_of(part[3], len(plant[0])):
        return False
    winds = part[4]
    return type(winds) is tuple and len(winds) == part[0] and all(referees.is_list_of(w, plant[5][0]) for w in winds)


def blind_referee(plant, room, walls, goal, many, value):
    m = plant[4][0]
    if referees.told(value, "row", 2) and type(value[1]) is tuple and len(value[1]) == many and all(
            referees.is_list_of(u, m) for u in value[1]):
        wishes = [numbers(u) for u in value[1]]
        found = [("wish", j) for j, u in enumerate(wishes) if not is_within(plant[4], u)]
        return referees.first(found + [("out", j, i) for j, i in blind_outs(plant, room, walls, goal, wishes)])
    good = referees.told(value, "block", 3) and type(value[1]) is tuple
    good = good and all(is_blind_part(plant, walls, goal, many, part) for part in value[1])
    good = good and [part[:2] for part in value[1]] == sorted({part[:2] for part in value[1]})
    good = good and type(value[2]) is tuple and len(value[2]) == many
    if not good or not all(referees.is_weights(some, len(plant[4][1])) for some in value[2]):
        return ("form",)
    _, parts, nu = value
    found = [("standing", k) for k, part in enumerate(parts) if not is_within(room, numbers(part[3]))]
    for k, part in enumerate(parts):
        found += [("gust", k, j) for j, w in enumerate(part[4]) if not is_within(plant[5], numbers(w))]

    def every(t):
        wishes = [t[j * m:j * m + m] for j in range(many)]
        told = sum((weighed(plant[4], u, some) for u, some in zip(wishes, nu)), Fraction(0))
        for j, i, weight, x, winds in parts:
            f, g = rows_at(walls, goal, many, j)[i]
            standing = run_by(plant, numbers(x), wishes, [numbers(w) for w in winds])[-1]
            told += number(weight) * (product_of(f, standing) - g)
        return told
    alone, unknown = parts_of(every, m * many)
    return referees.first(found + [("unknown",)] * any(unknown) + [("sum",)] * (alone <= 0))


def trips(told, many):
    """Plants with a room and a target, both with points."""
    found = [(WALK, HALF, GOAL), (WALK, GOAL, GOAL), (DRIFT, rough(0, 1), rough(-2, 3)), (STILL, cube(2), cube(2)),
             (STILL, cube(2), cube(2, 0, 2))]
    for _ in range(many):
        plant = some_plant(told, told.choice([1, 1, 2]))
        n = len(plant[0])
        target = cube(n, -told.randint(1, 5), told.randint(1, 6)) if told.random() < 0.6 else some_bounded(told, n)
        found.append((plant, some_bounded(told, n), target))
    return found


class TestForAll(unittest.TestCase):
    def test_by_hand(self):
        self.assertEqual(unchanged(self, wishes_for_all, WALK, HALF, GOAL), stretch(0, 0))
        self.assertEqual(wishes_for_all(WALK, HALF, WALLS), stretch(-1, 1))
        self.assertEqual(wishes_for_all(WALK, GOAL, GOAL), never(1))
        self.assertEqual(unchanged(self, wish_for_all, WALK, HALF, GOAL), ("wish", pt(0)))
        self.assertEqual(wish_for_all(WALK, GOAL, GOAL)[0], "block")
        self.assertEqual(wishes_for_all(STILL, cube(2), cube(2)), (0, ()))
        self.assertEqual(wish_for_all(STILL, cube(2), cube(2)), ("wish", ()))
        self.assertEqual(wishes_for_all(STILL, cube(2), cube(2, 0, 2)), (0, (((), -1),)))

    def test_all_sorts(self):
        told = seeded(471)
        words, faults = {}, {}
        for plant, room, target in trips(told, 60):
            found = unchanged(self, wishes_for_all, plant, room, target)
            self.assertEqual(found, lean(found))
            for u in points_within(found, told, 2) + points_within(plant[4], told, 2) + near(told, found, 1):
                self.assertEqual(is_within(found, u), good_for_all(plant, room, target, u))
            value = unchanged(self, wish_for_all, plant, room, target)
            self.assertEqual(value[0], "block" if is_bare(found) else "wish")
            words[value[0]] = True
            self.assertIsNone(judge_for_all(plant, room, target, value))
            self.assertIsNone(for_all_referee(plant, room, target, value))
            for _ in range(5):
                changed = referees.changed(told, value, ODD)
                fault = judge_for_all(plant, room, target, changed)
                self.assertEqual(fault, for_all_referee(plant, room, target, changed), (plant, room, target, changed))
                faults[fault and fault[0]] = True
        self.assertEqual(len(words), 2)
        self.assertTrue({"form", "wish", "out", "standing", "gust", "unknown", "sum"} <= set(faults), faults)

    def judged(self, value, fault):
        for judge in (judge_for_all, for_all_referee):
            self.assertEqual(judge(WALK, GOAL, GOAL, value), fault, value)

    def test_each_fault(self):
        half = Fraction(1, 2)
        one, two = (0, (1, 1), pt(1), pt(half)), (1, (1, 1), pt(-1), pt(-half))
        good = ("block", (one, two), pt(0, 0))
        self.judged(good, None)
        for value, fault in [
                (("wish", pt(2)), ("wish",)), (("wish", pt(0)), ("out", 0)), (("wish", pt(1)), ("out", 0)),
                (("wish", pt(-1)), ("out", 1)),
                (("wish", ()), ("form",)), (("wish", pt(0), ()), ("form",)),
                (("block", (two, one), pt(0, 0)), ("form",)),
                (("block", (one, one), pt(0, 0)), ("form",)), (("block", (one, two), pt(0)), ("form",)),
                (("block", (one, two), pt(0, -1)), ("form",)),
                (("block", (one, (2, (1, 1), pt(-1), pt(-half))), pt(0, 0)), ("form",)),
                (("block", (one, two[:3]), pt(0, 0)), ("form",)),
                (("block", (one, (1, (0, 1), pt(-1), pt(-half))), pt(0, 0)), ("form",)),
                (("block", ((0, (1, 1), pt(1), pt(9)), (1, (1, 1), pt(-9), pt(0))), pt(0, 0)), ("standing", 1)),
                (("block", ((0, (1, 1), pt(1), pt(9)), (1, (1, 1), pt(-1), pt(9))), pt(0, 0)), ("gust", 0)),
                (("block", (one, (1, (1, 1), pt(-1), pt(9))), pt(1, 0)), ("gust", 1)),
                (("block", (one, two), pt(1, 0)), ("unknown",)), (("block", (one,), pt(0, 0)), ("unknown",)),
                (("block", (one, two), pt(1, 1)), ("sum",)), (("block", (one, two), pt(half, half)), ("sum",)),
                (("block", (one, two), pt(Fraction(1, 3), Fraction(1, 3))), None), (("block", (), pt(0, 0)), ("sum",)),
                (("block", ((0, (1, 1), pt(0), pt(half)), (1, (1, 1), pt(0), pt(-half))), pt(0, 0)), ("sum",)),
                (("block", (one,), pt(0, 1)), ("sum",)), (list(good), ("form",)), (("row", (pt(0),)), ("form",))]:
            self.judged(value, fault)
        for odd in ODD:
            for value in (odd, ("wish", odd), ("block", odd, pt(0, 0)), ("block", (one, two), odd),
                    ("block", (odd,), pt(0, 0)),
                          ("block", ((0, odd, pt(1), pt(half)),), pt(0, 0)),
                          ("block", ((0, (1, 1), odd, pt(half)),), pt(0, 0)),
                          ("block", ((0, (1, 1), pt(1), odd),), pt(0, 0)),
                          ("block", ((odd, (1, 1), pt(1), pt(half)),), pt(0, 0))):
                self.judged(value, for_all_referee(WALK, GOAL, GOAL, value))


def blind_trips(told, count):
    """Plants with a room, walls, a goal and a number of wishes."""
    found = [(WALK, HALF, WALLS, GOAL, many) for many in range(4)]
    found += [(STILL, cube(2), cube(2), cube(2, 0, 2), many) for many in range(3)]
    found += [(WALK, HALF, never(1), GOAL, 1), (WALK, HALF, WALLS, never(1), 1), (WALK, HALF, rough(5, 4), GOAL, 0)]
    for _ in range(count):
        plant = some_plant(told, told.choice([1, 1, 2]), None, told.choice([0, 1, 1, 2]))
        n = len(plant[0])
        many = told.randint(0, 2 if n > 1 or plant[4][0] > 1 else 3)
        walls = cube(n, -told.randint(3, 9), told.randint(3, 9))
        goal = some_bounded(told, n, False) if told.random() < 0.4 else cube(n, -told.randint(2, 8), told.randint(2, 8))
        found.append((plant, some_bounded(told, n), walls, goal, many))
    return found


class TestBlind(unittest.TestCase):
    def test_by_hand(self):
        self.assertEqual(unchanged(self, blind_room, WALK, HALF, WALLS, GOAL, 1), stretch(0, 0))
        self.assertEqual(unchanged(self, blind_row, WALK, HALF, WALLS, GOAL, 1), ("row", (pt(0),)))
        self.assertEqual(blind_row(WALK, HALF, WALLS, GOAL, 2)[0], "block")
        self.assertEqual(blind_room(WALK, HALF, WALLS, GOAL, 2), never(2))
        self.assertEqual(blind_room(WALK, HALF, WALLS, GOAL, 0), (0, ()))
        self.assertEqual(blind_row(WALK, HALF, WALLS, GOAL, 0), ("row", ()))
        self.assertEqual(blind_room(WALK, WALLS, WALLS, GOAL, 0), (0, (((), -1),)))
        self.assertEqual(blind_row(WALK, WALLS, WALLS, GOAL, 0)[0], "block")
        self.assertEqual(blind_room(WALK, HALF, WALLS, never(1), 1), never(1))
        self.assertEqual(blind_room(STILL, cube(2), cube(2), cube(2), 3), (0, ()))
        wide = blind_room(WALK, HALF, rough(-3, 3), rough(-2, 2), 2)
        for u in itertools.product([Fraction(k, 4) for k in range(-5, 6)], repeat=2):
            due = all(is_within(WALK[4], [k]) for k in u) and not blind_outs(WALK, HALF, rough(-3, 3), rough(-2, 2),
                [[k] for k in u])
            self.assertEqual(is_within(wide, u), due)

    def test_all_sorts(self):
        told = seeded(472)
        words, faults = {}, {}
        for args in blind_trips(told, 60):
            plant, room, walls, goal, many = args
            m = plant[4][0]
            found = unchanged(self, blind_room, *args)
            self.assertEqual(found, lean(found))
            self.assertEqual(found[0], many * m)
            drawn = [some_standing(told, many * m, 1) for _ in range(2)]
            for t in points_within(found, told, 2)[-3:] + near(told, found, 1)[:4] + drawn:
                wishes = [list(t[j * m:j * m + m]) for j in range(many)]
                due = all(is_within(plant[4], u) for u in wishes) and not blind_outs(plant, room, walls, goal, wishes)
                self.assertEqual(is_within(found, t), due, args)
            value = unchanged(self, blind_row, *args)
            self.assertEqual(value[0], "block" if is_bare(found) else "row")
            words[value[0], many] = True
            self.assertIsNone(judge_blind(*args, value))
            self.assertIsNone(blind_referee(*args, value))
            for _ in range(5):
                changed = referees.changed(told, value, ODD)
                fault = judge_blind(*args, changed)
                self.assertEqual(fault, blind_referee(*args, changed), (args, changed))
                faults[fault and fault[0]] = True
        self.assertTrue({(word, many) for word in ("row", "block") for many in range(3)} <= set(words), words)
        self.assertTrue({"form", "wish", "out", "standing", "gust", "unknown", "sum"} <= set(faults), faults)

    def judged(self, value, fault, many=2):
        for judge in (judge_blind, blind_referee):
            self.assertEqual(judge(WALK, HALF, WALLS, GOAL, many, value), fault, value)

    def test_each_fault(self):
        half, nu = Fraction(1, 2), (pt(0, 0), pt(0, 0))
        one, two = (2, 2, (1, 1), pt(half), (pt(half), pt(half))), (2, 3, (1, 1), pt(-half), (pt(-half), pt(-half)))
        self.judged(("block", (one, two), nu), None)
        low = (1, 0, (1, 1), pt(half), (pt(half),))
        for value, fault in [
                (("row", (pt(2), pt(3))), ("wish", 0)), (("row", (pt(0), pt(3))), ("wish", 1)),
                (("row", (pt(0), pt(0))), ("out", 2, 2)),
                (("row", (pt(1), pt(-1))), ("out", 2, 2)), (("row", (pt(1), pt(1))), ("out", 2, 0)),
                (("row", (pt(-1), pt(-1))), ("out", 2, 1)),
                (("row", (pt(0),)), ("form",)), (("row", (pt(0), pt(0), pt(0))), ("form",)),
                (("row", (pt(0), ())), ("form",)), (("row", [pt(0), pt(0)]), ("form",)),
                (("block", (two, one), nu), ("form",)), (("block", (one, one), nu), ("form",)),
                (("block", (one, low), nu), ("form",)),
                (("block", (one, one[:2] + ((2, 1),) + one[3:]), nu), ("form",)),
                (("block", (low, one, two), nu), ("unknown",)), (("block", (one, two), nu[:1]), ("form",)),
                (("block", (one, two), (pt(0), pt(0))), ("form",)),
                (("block", (one, two), (pt(0, -1), pt(0, 0))), ("form",)),
                (("block", ((2, 4) + one[2:],), nu), ("form",)),
                (("block", ((1, 2) + low[2:],), nu), ("form",)), (("block", ((3, 0) + one[2:],), nu), ("form",)),
                (("block", ((2, 2, (0, 1)) + one[3:],), nu), ("form",)),
                (("block", ((2, 2, (1, 1), pt(half), (pt(half),)),), nu), ("form",)),
                (("block", ((2, 2, (1, 1), pt(half), (pt(half), ())),), nu), ("form",)),
                (("block", (one[:4] + ((pt(9), pt(9)),), two[:3] + (pt(9), two[4])), nu), ("standing", 1)),
                (("block", (one, two[:4] + ((pt(half), pt(9)),)), nu), ("gust", 1, 1)),
                (("block", (one[:4] + ((pt(9), pt(9)),), two), nu), ("gust", 0, 0)),
                (("block", (one[:4] + ((pt(0), pt(9)),), two[:4] + ((pt(9), pt(9)),)), nu), ("gust", 0, 1)),
                (("block", (one, two), (pt(0, 1), pt(0, 0))), ("unknown",)),
                (("block", (one,), (pt(0, 0), pt(0, 1))), ("unknown",)),
                (("block", (one, two), (pt(1, 1), pt(0, 0))), ("sum",)), (("block", (), nu), ("sum",)),
                (("block", (one,), (pt(0, 1), pt(0, 1))), ("sum",)),
                (("block", (one, two), (pt(Fraction(1, 5), Fraction(1, 5)), pt(0, 0))), None),
                (["block", (one, two), nu], ("form",)), (("wish", pt(0)), ("form",))]:
            self.judged(value, fault)
        self.judged(("row", ()), None, 0)
        self.judged(("block", (), ()), ("sum",), 0)
        for odd in ODD:
            for value in [odd, ("row", odd), ("row", (odd, pt(0))), ("block", odd, nu), ("block", (one, two), odd),
                    ("block", (one, odd), nu),
                          ("block", (one, two), (odd, pt(0, 0)))] + [("block", (one[:k] + (odd,) + one[k + 1:], two),
                          nu) for k in range(5)]:
                self.judged(value, blind_referee(WALK, HALF, WALLS, GOAL, 2, value))


class TestErrors(unittest.TestCase):
    def test_rooms(self):
        far = (1, (((1,), 0),))
        for room, error in ((never(1), Bare), (far, Unbounded)):
            for other in (GOAL, never(1), far):
                for call, args in ((wishes_for_all, ()), (wish_for_all, ()), (judge_for_all, (None,))):
                    self.assertRaises(error, call, WALK, room, other, *args)
            for call, args in ((wishes_for_all, ()), (wish_for_all, ()), (judge_for_all, (None,))):
                self.assertRaises(error, call, WALK, GOAL, room, *args)
            for many in (0, 2):
                for call, args in ((blind_room, ()), (blind_row, ()), (judge_blind, (None,))):
                    self.assertRaises(error, call, WALK, room, never(1), GOAL, many, *args)

    def test_too_great(self):
        push = ((pt(1, 0), pt(0, 1)), (pt(1, 0), pt(0, 1)), ((), ()), pt(0, 0), cube(2, -9999, 9999), (0, ()))
        point = cube(2, 0, 0)
        self.assertEqual(wishes_for_all(push, point, polygon(80)), lean(polygon(80)))
        self.assertRaises(TooGreat, wishes_for_all, push, point, polygon(81))
        self.assertEqual(wish_for_all(push, point, polygon(81))[0], "wish")
        self.assertEqual(len(blind_room(push, point, cube(2, -9999, 9999), polygon(80), 1)[1]), 80)
        self.assertRaises(TooGreat, blind_room, push, point, cube(2, -9999, 9999), polygon(81), 1)
        self.assertEqual(blind_row(push, point, cube(2, -9999, 9999), polygon(81), 1)[0], "row")
        self.assertRaises(TooGreat, blind_room, push, point, polygon(41), polygon(41), 2)

    def test_just_within_in_time(self):
        told = seeded(473)

        def some():
            return Fraction(told.randint(-9 ** 6, 9 ** 6), 9 ** 6)
        plant = (tuple(pt(some(), some(), some()) for _ in range(3)), tuple(pt(some()) for _ in range(3)),
                 tuple(pt(some() / 9, some() / 9) for _ in range(3)), pt(0, 0, 0), rough(-9, 9), cube(2))
        args = (plant, cube(3), cube(3, -70, 70), cube(3, -50, 50), 6)
        found = blind_room(*args)
        self.assertEqual(found[0], 6)
        self.assertIsNone(judge_blind(*args, blind_row(*args)))
        value = blind_row(plant, cube(3), cube(3, -70, 70), cube(3, 40, 50), 6)
        self.assertIsNone(judge_blind(plant, cube(3), cube(3, -70, 70), cube(3, 40, 50), 6, value))
