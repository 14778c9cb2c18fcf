import itertools
import unittest
from fractions import Fraction
from math import gcd

from everygust.blind import wishes_for_all
from everygust.errors import Bare, TooGreat, Unbounded
from everygust.lean import lean
from everygust.looks import (
    funnel_fault, is_seen_kept, judge_look_block, judge_look_tallies, look_block, look_tallies, serving, ties_of)
from everygust.sights import giving, looks_of
from everygust.weights import is_bare
from tests import referees
from tests.helpers import (
    ODD, corners_by_trying, cube, is_within, number, numbers, polygon, product_of, pt, seeded, solved, unchanged)
from tests.plants import DRIFT, STILL, from_numbers, is_back, moved, near, points_within, some_bounded, some_plant
from tests.sighted import BLINDFOLD, GLANCE, HALF, WALK, is_given, is_weights, parts_of, slip_of, some_sight, weighed
from tests.test_blind import block_sum_faults, good_for_all, is_wish_block
from tests.test_levels import stretch
from tests.test_lots import rough
from tests.test_steps import never

R, LESS = rough(-1, 1), (1, (((-10,), 9), ((10,), 9)))
SAME = (1, (((-1,), 1), ((1,), 1)))
ONE, TWO = [(k, (1, 1), pt(Fraction(2 * k - 1, 2)), pt(Fraction(2 * k - 1, 2))) for k in range(2)]
BLOCK = (pt(0), (ONE, TWO), pt(0, 0))


def vectors_of(plant, target):
    m = plant[4][0]
    found = [[product_of(f, [number(line[j]) for line in plant[1]]) for j in range(m)] for f, _ in target[1]]
    return found + [[Fraction(k) for k in a] for a, _ in plant[4][1]]


def shares_of(vectors):
    """The shares above 0 with the sum nought, the first of them 1, if there are just such; None otherwise."""
    first, rest = vectors[0], vectors[1:]
    if not rest:
        return None if any(first) else [Fraction(1)]
    told = solved([[v[j] for v in rest] for j in range(len(first))], [-k for k in first]) if first else None
    return None if told is None or min(told) <= 0 else [Fraction(1)] + list(told)


def ties_by_trying(plant, target):
    vectors, many = vectors_of(plant, target), len(target[1])
    zero, found = [], []
    for size in range(1, plant[4][0] + 2):
        for some in itertools.combinations(range(len(vectors)), size):
            if any(set(less) <= set(some) for less in zero):
                continue
            shares = shares_of([vectors[k] for k in some])
            if shares is None:
                continue
            zero.append(some)
            scale = 1
            for t in shares:
                scale = scale * t.denominator // gcd(scale, t.denominator)
            told = [int(t * scale) for t in shares]
            common = 0
            for k in told:
                common = gcd(common, k)
            if some[0] < many:
                found.append(tuple((k, t // common) for k, t in zip(some, told)))
    return sorted(found)


def block_referee(plant, sight, room, target, value):
    good = type(value) is tuple and len(value) == 3 and referees.is_list_of(value[0], len(sight[0]))
    good = good and is_wish_block(plant, target, value)
    if not good or len(value[1]) + sum(t[0] > 0 for t in value[2]) > plant[4][0] + 1:
        return ("form",)
    y, parts, nu = value
    found = [("standing", k) for k, part in enumerate(parts) if not is_within(room, numbers(part[2]))]
    found += [("look", k) for k, part in enumerate(parts) if not is_given(sight, numbers(part[2]), numbers(y))]
    found += [("gust", k) for k, part in enumerate(parts) if not is_within(plant[5], numbers(part[3]))]
    return referees.first(found + block_sum_faults(plant, target, parts, nu))


def tallies_referee(plant, sight, room, target, value):
    ties, many = ties_by_trying(plant, target), len(target[1])
    n, s, k = room[0], len(sight[0]), plant[5][0]
    if type(value) is not tuple or len(value) != len(ties):
        return ("form",)
    for tie, triples in zip(ties, value):
        if type(triples) is not tuple or len(triples) != sum(i < many for i, _ in tie):
            return ("form",)
        for triple in triples:
            if type(triple) is not tuple or len(triple) != 3:
                return ("form",)
            if not all(is_weights(one, some) for one, some in zip((room, sight[1], plant[5]), triple)):
                return ("form",)
    for number_told, (tie, triples) in enumerate(zip(ties, value)):
        rows = [(target[1][i], share) for i, share in tie if i < many]
        bound = sum(share * (target[1] + plant[4][1])[i][1] for i, share in tie)

        def every(t):
            y, told = t[:s], Fraction(0)
            for j, ((row, share), (ons, seens, blows)) in enumerate(zip(rows, triples)):
                x = t[s + j * (n + k):s + j * (n + k) + n]
                w = t[s + j * (n + k) + n:s + (j + 1) * (n + k)]
                told += weighed(room, x, ons) + weighed(sight[1], slip_of(sight, x, y), seens) + weighed(plant[5], w,
                    blows)
                told -= share * product_of(row[0], moved(plant, x, [0] * plant[4][0], w))
            return told + bound
        alone, unknown = parts_of(every, s + len(rows) * (n + k))
        if any(unknown) or alone < 0:
            return ("sum", number_told)
    return None


def trips(told, many):
    """Plants with a sight, a room and a target, all with few rows."""
    found = [(WALK, GLANCE, R, R), (WALK, GLANCE, LESS, LESS), (WALK, BLINDFOLD, R, R),
        (STILL, BLINDFOLD, cube(2), cube(2)),
             (STILL, BLINDFOLD, cube(2), cube(2, 0, 2)), (DRIFT, ((pt(1),), rough(0, 0)), rough(-3, 3), rough(-1, 1))]
    while len(found) < many:
        plant = some_plant(told, told.choice([1, 1, 2]))
        n = len(plant[0])
        target = cube(n, -told.randint(1, 5), told.randint(1, 6)) if told.random() < 0.7 else some_bounded(told, n)
        if len(target[1]) + len(plant[4][1]) <= 10:
            found.append((plant, some_sight(told, n), some_bounded(told, n), target))
    return found


class TestServing(unittest.TestCase):
    def test_by_hand(self):
        self.assertEqual(unchanged(self, serving, WALK, GLANCE, R, R, pt(0)), stretch(0, 0))
        self.assertEqual(serving(WALK, GLANCE, R, R, pt(Fraction(3, 2))), stretch(-1, Fraction(-1, 2)))
        self.assertEqual(serving(WALK, GLANCE, LESS, LESS, pt(0)), never(1))
        self.assertEqual(serving(WALK, BLINDFOLD, HALF, R, ()), stretch(0, 0))

    def test_by_standings(self):
        told = seeded(481)
        kinds = {}
        for plant, sight, room, target in trips(told, 40):
            for y in points_within(looks_of(sight, room), told, 2)[-3:]:
                found = unchanged(self, serving, plant, sight, room, target, from_numbers(y))
                seen = giving(sight, room, from_numbers(y))
                self.assertEqual(found, wishes_for_all(plant, seen, target))
                self.assertEqual(found, lean(found))
                kinds[is_bare(found)] = True
                for u in points_within(found, told, 1) + points_within(plant[4], told, 1) + near(told, found, 1):
                    self.assertEqual(is_within(found, u), good_for_all(plant, seen, target, u))
        self.assertEqual(len(kinds), 2)

    def test_errors(self):
        far = (1, (((1,), 0),))
        for room, error in ((never(1), Bare), (far, Unbounded)):
            self.assertRaises(error, serving, WALK, GLANCE, room, far, pt(9))
            self.assertRaises(error, serving, WALK, GLANCE, R, room, pt(0))
        # A look that none may give is refused behind the room, ahead of the target.
        self.assertRaises(Bare, serving, WALK, GLANCE, R, R, pt(Fraction(8, 5)))
        self.assertRaises(Bare, serving, WALK, GLANCE, R, far, pt(9))
        self.assertRaises(Unbounded, serving, WALK, GLANCE, far, never(1), pt(9))
        self.assertRaises(Unbounded, serving, WALK, GLANCE, R, far, pt(0))
        push = ((pt(1, 0), pt(0, 1)), (pt(1, 0), pt(0, 1)), ((), ()), pt(0, 0), cube(2, -9999, 9999), (0, ()))
        self.assertRaises(TooGreat, serving, push, BLINDFOLD, cube(2, 0, 0), polygon(81), ())
        self.assertEqual(len(serving(push, BLINDFOLD, cube(2, 0, 0), polygon(80), ())[1]), 80)
        self.assertEqual(serving(STILL, BLINDFOLD, polygon(81), cube(2, 0, 9999), ()), (0, ()))


class TestTies(unittest.TestCase):
    def test_by_hand(self):
        self.assertEqual(unchanged(self, ties_of, WALK, R), [((0, 1), (1, 1)), ((0, 1), (3, 1)), ((1, 1), (2, 1))])
        told = ((pt(1),), (pt(1),), (pt(1),), pt(0), SAME, HALF)
        self.assertEqual(ties_of(told, SAME), [((0, 1), (1, 1)), ((0, 1), (3, 1)), ((1, 1), (2, 1))])
        self.assertEqual(ties_of(STILL, cube(2)), [((k, 1),) for k in range(4)])
        twice = ((pt(1),), (pt(Fraction(2, 3)),), (pt(1),), pt(0), SAME, HALF)
        self.assertEqual(ties_of(twice, LESS), [((0, 1), (1, 1)), ((0, 3), (3, 20)), ((1, 3), (2, 20))])
        idle = ((pt(1),), (pt(0),), (pt(1),), pt(0), SAME, HALF)
        self.assertEqual(ties_of(idle, SAME), [((0, 1),), ((1, 1),)])

    def test_by_trying(self):
        told = seeded(482)
        sizes = {}
        for plant, _, _, target in trips(told, 90):
            found = unchanged(self, ties_of, plant, target)
            self.assertEqual(found, ties_by_trying(plant, target), (plant, target))
            for tie in found:
                sizes[len(tie), sum(k < len(target[1]) for k, _ in tie)] = True
        self.assertTrue({(1, 1), (2, 1), (2, 2), (3, 1), (3, 2), (3, 3)} <= set(sizes), sizes)


class TestPapers(unittest.TestCase):
    def test_by_hand(self):
        self.assertIs(unchanged(self, is_seen_kept, WALK, GLANCE, R), True)
        self.assertIs(is_seen_kept(WALK, GLANCE, LESS), False)
        self.assertIsNone(look_block(WALK, GLANCE, R, R))
        self.assertIsNone(look_tallies(WALK, GLANCE, LESS, LESS))
        self.assertIsNone(judge_look_block(WALK, GLANCE, LESS, LESS, BLOCK))
        self.assertTrue(all(is_back(WALK, [Fraction(k, 10)], LESS) for k in range(-9, 10)))

    def test_all_sorts(self):
        told = seeded(483)
        words, faults = {}, {}
        for plant, sight, room, target in trips(told, 70):
            args = (plant, sight, room, target)
            block, tallies = unchanged(self, look_block, *args), unchanged(self, look_tallies, *args)
            self.assertIs(block is None, tallies is not None)
            words[block is None] = True
            if block is not None:
                self.assertIsNone(judge_look_block(*args, block))
                self.assertIsNone(block_referee(*args, block))
                self.assertTrue(is_bare(serving(*args, block[0])))
            else:
                self.assertIsNone(judge_look_tallies(*args, tallies))
                self.assertIsNone(tallies_referee(*args, tallies))
                for y in points_within(looks_of(sight, room), told, 3):
                    self.assertFalse(is_bare(serving(*args, from_numbers(y))))
            for _ in range(4):
                value = referees.changed(told, block if block is not None else tallies, ODD)
                fault = judge_look_block(*args, value)
                self.assertEqual(fault, block_referee(*args, value), (args, value))
                faults["block", fault and fault[0]] = True
                fault = judge_look_tallies(*args, value)
                self.assertEqual(fault, tallies_referee(*args, value), (args, value))
                faults["tallies", fault and fault[0]] = True
        self.assertEqual(len(words), 2)
        due = {("block", word) for word in ("form", "standing", "look", "gust", "unknown", "sum")}
        self.assertTrue(due | {("tallies", "form"), ("tallies", "sum")} <= set(faults), faults)

    def judged(self, value, fault):
        for judge in (judge_look_block, block_referee):
            self.assertEqual(judge(WALK, GLANCE, LESS, LESS, value), fault, value)

    def test_each_fault_of_blocks(self):
        y, (one, two), nu = BLOCK
        half, wrong = Fraction(1, 2), (1, (1, 1), pt(9), pt(9))
        for value, fault in [
                (BLOCK, None), ((pt(3), (one, wrong), nu), ("standing", 1)), ((pt(3), (one, two), nu), ("look", 0)),
                ((pt(half), (one, (1, (1, 1), pt(half), pt(9))), nu), ("look", 0)),
                ((y, (one, (1, (1, 1), pt(half), pt(9))), pt(1, 0)), ("form",)),
                ((y, ((0, (1, 1), pt(0), pt(9)), two), nu), ("gust", 0)),
                ((y, (one, (1, (2, 1), pt(half), pt(half))), nu), ("unknown",)),
                ((y, ((0, (1, 1), pt(0), pt(0)), two), nu), ("sum",)), ((y, (one,), nu), ("unknown",)),
                ((y, (), nu), ("sum",)),
                ((y, (two, one), nu), ("form",)), ((y, (one, one), nu), ("form",)), (((), (one, two), nu), ("form",)),
                ((y, (one, two), pt(0)), ("form",)),
                ((y, (one,), pt(10, 0)), ("sum",)),
                ((y, (one, two)), ("form",)), (list(BLOCK), ("form",)), ((y, (one, two), pt(-1, 0)), ("form",))]:
            self.judged(value, fault)
        for odd in ODD:
            for value in [odd, (odd, (one, two), nu), (y, odd, nu), (y, (one, two), odd), (y, (one, odd), nu)] + [
                    (y, (one[:k] + (odd,) + one[k + 1:], two), nu) for k in range(4)]:
                self.judged(value, block_referee(WALK, GLANCE, LESS, LESS, value))

    def test_each_fault_of_tallies(self):
        good = look_tallies(WALK, GLANCE, R, R)

        def judged(value, fault):
            for judge in (judge_look_tallies, tallies_referee):
                self.assertEqual(judge(WALK, GLANCE, R, R, value), fault, value)
        judged(good, None)
        zero = ((pt(0, 0),) * 3,)
        for value, fault in [
                (good[:2], ("form",)), (good + good[:1], ("form",)), ((zero * 2,) + good[1:], ("sum", 0)),
                (good[:1] + (zero,) + good[2:], ("sum", 1)),
                (good[:2] + (zero,), ("sum", 2)), (good[:1] + (zero, zero), ("sum", 1)),
                ((zero,) + good[1:], ("form",)), ((zero, zero, zero), ("form",)),
                (good[:2] + ((pt(0, 0), pt(0, 0)),), ("form",)),
                (good[:2] + (((pt(0, -1), pt(0, 0), pt(0, 0)),),), ("form",)),
                ((zero * 2, zero, (((0, 1),),)), ("form",)), (list(good), ("form",))]:
            judged(value, fault)
        for odd in ODD:
            for value in (odd, (odd,) + good[1:], good[:2] + ((odd,),), good[:2] + (((odd, pt(0, 0), pt(0, 0)),),),
                    good[:2] + ((good[2][0][:2] + (odd,),),)):
                judged(value, tallies_referee(WALK, GLANCE, R, R, value))


class TestFunnels(unittest.TestCase):
    def test_by_hand(self):
        walls = rough(-2, 2)
        for rooms, goal, due in [
                ((HALF, R), R, None), ((HALF,), R, None), ((rough(-2, 2), R), R, ("look", 0)), ((HALF, R, R), R, None),
                ((rough(-2, 2), R, HALF), HALF, ("look", 0)), ((HALF, R, HALF), HALF, ("look", 1)),
                ((HALF, R), HALF, ("goal", pt(-1))),
                ((rough(0, 3), rough(-5, 9), R), R, ("walls", 0, pt(3))),
                ((R, rough(-5, 9)), HALF, ("walls", 1, pt(-5))),
                ((rough(-2, 2), rough(-2, 2)), rough(-2, 1), ("goal", pt(2))),
                ((rough(3, 3),), R, ("walls", 0, pt(3)))]:
            self.assertEqual(unchanged(self, funnel_fault, WALK, GLANCE, rooms, walls, goal), due)
            self.assertEqual(funnel_fault(WALK, GLANCE, list(rooms), walls, goal), due)
        self.assertEqual(funnel_fault(WALK, GLANCE, (HALF,), never(1), R), ("walls", 0, pt(Fraction(-1, 2))))
        self.assertEqual(funnel_fault(WALK, GLANCE, (HALF,), walls, never(1)), ("goal", pt(Fraction(-1, 2))))

    def test_what_holds(self):
        told = seeded(484)
        faults = {}
        for plant, sight, room, target in trips(told, 60):
            n = room[0]
            walls = cube(n, -told.randint(2, 7), told.randint(2, 7))
            rooms = (room, target, room)[:told.randint(1, 3)]
            if max(len(one[1]) + len(plant[4][1]) for one in rooms) > 10:
                continue
            found = []
            for j, one in enumerate(rooms):
                found += [("walls", j, from_numbers(x)) for x in corners_by_trying(one) if not is_within(walls, x)]
            found += [("goal", from_numbers(x)) for x in corners_by_trying(rooms[-1]) if not is_within(target, x)]
            for j, (one, other) in enumerate(zip(rooms, rooms[1:])):
                found += [("look", j)] * (look_block(plant, sight, one, other) is not None)
            fault = unchanged(self, funnel_fault, plant, sight, rooms, walls, target)
            self.assertEqual(fault, referees.first(found))
            faults[fault and fault[0]] = True
            self.assertEqual(unchanged(self, is_seen_kept, plant, sight, room),
                look_block(plant, sight, room, room) is None)
        self.assertEqual(set(faults), {None, "walls", "goal", "look"})


class TestErrors(unittest.TestCase):
    def calls(self, plant, sight, room, target):
        args = (plant, sight, room, target)
        return [(look_block, args), (look_tallies, args), (judge_look_tallies, args + (None,)),
            (judge_look_block, args + (None,))]

    def test_rooms(self):
        far = (1, (((1,), 0),))
        for room, error in ((never(1), Bare), (far, Unbounded)):
            for other in (R, far, never(1)):
                for call, args in self.calls(WALK, GLANCE, room, other):
                    self.assertRaises(error, call, *args)
            for call, args in self.calls(WALK, GLANCE, R, room):
                self.assertRaises(error, call, *args)
            self.assertRaises(error, ties_of, WALK, room)
            self.assertRaises(error, is_seen_kept, WALK, GLANCE, room)
            self.assertRaises(error, funnel_fault, WALK, GLANCE, (R, room, far), never(1), R)
            self.assertRaises(error, funnel_fault, WALK, GLANCE, (room,), never(1), R)

    def test_too_many_rows(self):
        # WALK has two rows of wishes: eight of a target are the most; rooms without points are looked at behind.
        eight = (1, R[1] * 4)
        nine, bare = (1, R[1] * 4 + R[1][:1]), (1, R[1] * 4 + (((0,), -1),))
        self.assertEqual(len(ties_of(WALK, eight)), 16 + 8)
        for room in (nine, bare):
            self.assertRaises(TooGreat, ties_of, WALK, room)
            self.assertRaises(TooGreat, is_seen_kept, WALK, GLANCE, room)
            for call, args in self.calls(WALK, GLANCE, never(1), room)[:3]:
                self.assertRaises(TooGreat, call, *args)
            for rooms in ((never(1), R, room), (never(1), room, R), (never(1), room)):
                self.assertRaises(TooGreat, funnel_fault, WALK, GLANCE, rooms, R, R)
        self.assertRaises(Bare, judge_look_block, WALK, GLANCE, never(1), nine, None)
        self.assertEqual(judge_look_block(WALK, GLANCE, R, nine, None), ("form",))
        self.assertIsNone(look_block(WALK, GLANCE, nine, R))
        self.assertIsNone(funnel_fault(WALK, GLANCE, (nine, eight), R, R))
        self.assertIs(is_seen_kept(WALK, GLANCE, eight), True)

    def test_just_within_in_time(self):
        told = seeded(485)

        def some():
            return Fraction(told.randint(-9 ** 6, 9 ** 6), 9 ** 6)
        plant = (tuple(pt(some(), some(), some()) for _ in range(3)), tuple(pt(some(), some()) for _ in range(3)),
                 tuple(pt(some() / 9, some() / 9) for _ in range(3)), pt(0, 0, 0), cube(2, -9, 9), cube(2))
        sight = (tuple(pt(some(), some(), some()) for _ in range(3)), cube(3))
        rows = tuple(((told.randint(-99, 99), told.randint(-99, 99), told.randint(-99, 99)), 300) for _ in range(6))
        room = (3, cube(3, -2, 2)[1] + rows)
        for size in (1, 60):
            target = cube(3, -size, size)
            block, tallies = look_block(plant, sight, room, target), look_tallies(plant, sight, room, target)
            self.assertIs(block is None, tallies is not None)
            if block is not None:
                self.assertIsNone(judge_look_block(plant, sight, room, target, block))
            else:
                self.assertIsNone(judge_look_tallies(plant, sight, room, target, tallies))
