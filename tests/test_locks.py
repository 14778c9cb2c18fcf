import unittest
from fractions import Fraction

from everygust.errors import Bare, TooGreat, Unbounded
from everygust.locks import judge_lock, one_piece
from everygust.rows import boxed
from everygust.tables import judge_table, made_table
from everygust.weights import is_bare
from tests import referees
from tests.helpers import (
    ODD, corners_by_trying, cube, is_within, number, numbers, polygon, product_of, pt, seeded, simplex, unchanged)
from tests.plants import DRIFT, SLIDE, STILL, moved
from tests.test_lots import rough
from tests.test_steps import never
from tests.test_tables import ONE_TO_FIVE, SIX, trips
from tests.test_weights import BARE, WEDGE

LOCK = (((0, pt(1)), pt(8), (1, 1)), ((1,), pt(8), (1, 1)))
EIGHT = rough(0, 8)


def lock_referee(plant, room, target, value):
    n, m, k = len(plant[0]), plant[4][0], plant[5][0]

    def is_good(told):
        if type(told) is not tuple or len(told) != 3 or not referees.is_list_of(told[1], n):
            return False
        why = told[0]
        if not referees.is_fraction(told[2]) or told[2][0] <= 0 or type(why) is not tuple or len(why) not in (1, 2):
            return False
        rows = plant[4][1] if len(why) == 1 else target[1]
        if type(why[0]) is not int or not 0 <= why[0] < len(rows):
            return False
        return len(why) == 1 or referees.is_list_of(why[1], k)
    if type(value) is not tuple or not all(is_good(told) for told in value):
        return ("form",)
    found = []
    for j, (why, corner, _) in enumerate(value):
        found += [("corner", j)] * (tuple(numbers(corner)) not in corners_by_trying(room))
        found += [("gust", j)] * (len(why) == 2 and not is_within(plant[5], numbers(why[1])))
    if found:
        return found[0]
    sums, every = {}, Fraction(0)
    for why, corner, weight in value:
        p, t = numbers(corner), number(weight)
        if len(why) == 1:
            by_wish, bound = plant[4][1][why[0]]
        else:
            r, s = target[1][why[0]]
            by_wish = [product_of(r, [number(line[j]) for line in plant[1]]) for j in range(m)]
            bound = s - product_of(r, moved(plant, p, [0] * m, numbers(why[1])))
        for j in range(m):
            for place, x in enumerate(p + [1]):
                sums[j, place] = sums.get((j, place), 0) + t * by_wish[j] * x
        every += t * bound
    return referees.first([("turn",)] * any(sums.values()) + [("sum",)] * (every >= 0))


class TestOnePiece(unittest.TestCase):
    def test_by_hand(self):
        found = unchanged(self, one_piece, DRIFT, SIX, ONE_TO_FIVE)
        self.assertEqual(found, ("piece", (pt(Fraction(-2, 3)),), pt(2)))
        word, lock = unchanged(self, one_piece, DRIFT, EIGHT, ONE_TO_FIVE)
        self.assertEqual(word, "lock")
        self.assertIsNone(judge_lock(DRIFT, EIGHT, ONE_TO_FIVE, lock))
        self.assertEqual(one_piece(STILL, cube(2), cube(2)), ("piece", (), ()))
        word, lock = one_piece(STILL, cube(2), cube(2, 0, 4))
        self.assertIsNone(judge_lock(STILL, cube(2), cube(2, 0, 4), lock))

    def test_where_tables_do_and_no_piece(self):
        # The wish is 0 at three corners of the square, so it would be 0 at the fourth one, where it must be 1/2.
        plant = ((pt(1, 0), pt(0, 1)), (pt(-1), pt(-1)), ((), ()), pt(0, 0), cube(1, 0, 1), (0, ()))
        room, target = cube(2, 0, 1), simplex(2)
        word, lock = one_piece(plant, room, target)
        self.assertEqual(word, "lock")
        self.assertIsNone(judge_lock(plant, room, target, lock))
        table = made_table(plant, room, target)
        self.assertEqual(len(table), 2)
        self.assertIsNone(judge_table(plant, room, target, table))
        for i, piece in enumerate(table):
            self.assertEqual(one_piece(plant, piece[0], target)[0], "piece", i)

    def test_all_sorts(self):
        told = seeded(321)
        words, faults = {}, {}
        for plant, room, target in trips(told, 90):
            if is_bare(room):
                self.assertRaises(Bare, one_piece, plant, room, target)
                continue
            found = unchanged(self, one_piece, plant, room, target)
            words[found[0]] = True
            if found[0] == "piece":
                self.assertIsNone(judge_table(plant, room, target, ((room,) + found[1:],)))
                self.assertIsNotNone(made_table(plant, room, target))
                continue
            lock = found[1]
            self.assertIsNone(judge_lock(plant, room, target, lock))
            self.assertIsNone(lock_referee(plant, room, target, lock))
            for _ in range(6):
                value = referees.changed(told, lock, ODD)
                fault = judge_lock(plant, room, target, value)
                self.assertEqual(fault, lock_referee(plant, room, target, value), (plant, room, target, value))
                faults[fault and fault[0]] = True
        self.assertEqual(sorted(words), ["lock", "piece"])
        self.assertTrue({"form", "corner", "turn"} <= set(faults), faults)

    def test_refused(self):
        self.assertRaises(Bare, one_piece, SLIDE, BARE, cube(2))
        self.assertRaises(Bare, one_piece, DRIFT, never(1), never(1))
        for call in (one_piece, lambda *args: judge_lock(*args, None)):
            self.assertRaises(Unbounded, call, SLIDE, WEDGE, cube(2))
            self.assertRaises(TooGreat, call, STILL, polygon(301), cube(2))
            self.assertRaises(Unbounded, call, STILL, (2, polygon(301)[1][:-1]), cube(2))
        far = (2, polygon(301)[1] + (((0, 1), -1),))
        self.assertRaises(Bare, one_piece, STILL, far, cube(2))

    def test_just_within_in_time(self):
        told = seeded(323)
        rows = [((told.randint(-999, 999), told.randint(-999, 999), told.randint(-999, 999)), 9999) for _ in range(14)]
        target = (3, tuple(rows) + cube(3, -12, 12)[1])
        plant = (tuple(pt(*[Fraction(told.randint(-999, 999), 999) for _ in range(3)]) for _ in range(3)),
                 tuple(pt(told.randint(-2, 2), 1) for _ in range(3)),
                 tuple(pt(Fraction(1, 9), 0) for _ in range(3)), pt(0, 0, 0), cube(2, -3, 3), cube(2))
        for size in (1, 2, 5, 9):
            room = cube(3, -size, size)
            found = one_piece(plant, room, target)
            if found[0] == "piece":
                self.assertIsNone(judge_table(plant, room, target, ((room,) + found[1:],)))
            else:
                self.assertIsNone(judge_lock(plant, room, target, found[1]))


class TestLocks(unittest.TestCase):
    def judged(self, value, fault):
        self.assertEqual(judge_lock(DRIFT, EIGHT, ONE_TO_FIVE, value), fault, value)
        self.assertEqual(lock_referee(DRIFT, EIGHT, ONE_TO_FIVE, value), fault, value)

    def test_each_fault(self):
        first, second = LOCK
        self.judged(LOCK, None)
        self.judged((), ("sum",))
        self.judged(LOCK[::-1], None)
        self.judged(LOCK + LOCK, None)
        self.judged((first,), ("turn",))
        self.judged((first, ((1,), pt(0), (1, 1))), ("turn",))
        self.judged((first, ((0,), pt(8), (1, 1))), ("turn",))
        self.judged((((0, pt(-1)), pt(8), (1, 1)), second), ("sum",))
        self.judged((((0, pt(-1)), pt(0), (1, 1)), ((1,), pt(0), (1, 1))), ("sum",))
        self.judged((((0, pt(2)), pt(8), (1, 1)), second), ("gust", 0))
        self.judged((((0, pt(2)), pt(7), (1, 1)), second), ("corner", 0))
        self.judged((((0, pt(2)), pt(8), (1, 1)), ((1,), pt(7), (1, 1))), ("gust", 0))
        self.judged((first, ((1,), pt(7), (1, 1))), ("corner", 1))
        self.judged((first, ((1,), pt(8), (2, 1))), ("turn",))
        self.judged((((0, pt(1)), pt(8), (1, 3)), ((1,), pt(8), (1, 3))), None)
        for part in (((0, pt(1)), pt(8), (0, 1)), ((0, pt(1)), pt(8), (-1, 1)), ((2, pt(1)), pt(8), (1, 1)),
                     ((0, pt(1, 1)), pt(8), (1, 1)), ((0, pt(1)), pt(8, 8), (1, 1)), ((2,), pt(8), (1, 1)),
                     ((), pt(8), (1, 1)), ((0, pt(1), 0), pt(8), (1, 1)), (0, pt(8), (1, 1)), ((0, pt(1)), pt(8)),
                     ([0], pt(8), (1, 1)), ((True,), pt(8), (1, 1)), [(1,), pt(8), (1, 1)]):
            self.judged((first, part), ("form",))
        self.judged(list(LOCK), ("form",))
        for odd in ODD:
            for value in (odd, (odd,), (first, odd), ((odd, pt(8), (1, 1)),), (((0, odd), pt(8), (1, 1)),),
                          ((second[0], odd, (1, 1)),), ((second[0], pt(8), odd),)):
                self.judged(value, lock_referee(DRIFT, EIGHT, ONE_TO_FIVE, value))

    def test_numbers_and_what_stands_alone(self):
        # Weights that cancel what stands alone, but not what is taken times the standing.
        plant = DRIFT
        room = boxed(pt(1), pt(3))
        value = (((0, pt(1)), pt(3), (1, 1)), ((1,), pt(1), (1, 1)))
        self.assertEqual(judge_lock(plant, room, ONE_TO_FIVE, value), ("turn",))
        both = (((0, pt(1)), pt(3), (1, 1)), ((1,), pt(1), (3, 1)))
        self.assertEqual(judge_lock(plant, room, ONE_TO_FIVE, both), ("turn",))
        self.assertEqual(lock_referee(plant, room, ONE_TO_FIVE, both), ("turn",))
