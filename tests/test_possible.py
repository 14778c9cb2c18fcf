import unittest
from fractions import Fraction

from everygust.corners import corners
from everygust.errors import BadWish, Bare, TooGreat, Unbounded
from everygust.lean import lean
from everygust.possible import judge_tally, judge_trace, never, possible, tally, trace_to
from everygust.steps import come_by
from everygust.weights import is_bare
from tests import referees
from tests.helpers import ODD, cube, fr, is_within, number, numbers, polygon, product_of, pt, seeded, unchanged
from tests.plants import STILL, from_numbers, moved, near, points_within
from tests.sighted import (
    BLINDFOLD, GLANCE, WALK, is_given, is_weights, parts_of, seen_by, slip_of, some_record, trace_of, trips, weighed)
from tests.test_levels import stretch
from tests.test_lots import rough
from tests import test_steps

ROOM = rough(-2, 2)
LOOK, WISH, NEXT, LATE = pt(0), pt(1), pt(1), pt(3)


def trace_faults(plant, sight, room, record, x, value):
    begin, winds, slipped = [numbers(value[0])] + [[numbers(one) for one in told] for told in value[1:]]
    found = [("start",)] * (not is_within(room, begin))
    standings = trace_of(plant, sight, record, begin, winds, slipped)
    for place, member in enumerate(record):
        j = place // 2
        if place % 2:
            found += [("gust", j)] * (not is_within(plant[5], winds[j]))
        else:
            found += [("slip", j)] * (not is_within(sight[1], slipped[j]))
            found += [("look", j)] * (slip_of(sight, standings[place], numbers(member)) != slipped[j])
    return found + [("end",)] * (standings[-1] != numbers(x))


def is_points(value, many, n):
    return type(value) is tuple and len(value) == many and all(referees.is_list_of(one, n) for one in value)


def trace_referee(plant, sight, room, record, x, value):
    looks, wishes = len(record[::2]), len(record[1::2])
    good = type(value) is tuple and len(value) == 3 and referees.is_list_of(value[0], len(plant[0]))
    if not good or not is_points(value[1], wishes, plant[5][0]) or not is_points(value[2], looks, len(sight[0])):
        return ("form",)
    return referees.first(trace_faults(plant, sight, room, record, x, value))


def tally_referee(plant, sight, room, record, row, value):
    n, k = len(plant[0]), plant[5][0]
    looks, wishes = len(record[::2]), len(record[1::2])
    if type(value) is not tuple or len(value) != 3 or not is_weights(room, value[0]):
        return ("form",)
    for told, many, one in ((value[1], wishes, plant[5]), (value[2], looks, sight[1])):
        if type(told) is not tuple or len(told) != many or not all(is_weights(one, some) for some in told):
            return ("form",)

    def every(t):
        winds = [t[n + j * k:n + j * k + k] for j in range(wishes)]
        standings = trace_of(plant, sight, record, t[:n], winds, None)
        found = weighed(room, t[:n], value[0])
        found += sum(weighed(plant[5], winds[j], value[1][j]) for j in range(wishes))
        for j in range(looks):
            found += weighed(sight[1], slip_of(sight, standings[2 * j], numbers(record[2 * j])), value[2][j])
        return found - (0 if row is None else product_of(row[0], standings[-1]) - row[1])
    alone, unknown = parts_of(every, n + wishes * k)
    return ("sum",) if any(unknown) or alone < (1 if row is None else 0) else None


def records(told, many):
    """Plants with a sight, a room and a record: such as come, and such as need not."""
    found = []
    for plant, sight, room in trips(told, many):
        looks = told.randint(0, 3)
        record, trace, _ = some_record(told, plant, sight, room, looks, told.random() < 0.5)
        if told.random() < 0.3 and len(record) > 2:
            k = told.choice(range(0, len(record), 2))
            record = record[:k] + (pt(*[number(x) + told.choice([-1, 2]) for x in record[k]]),) + record[k + 1:]
        found.append((plant, sight, room, record))
    return found


class TestPossible(unittest.TestCase):
    def test_example(self):
        for record, due in [((), stretch(-2, 2)), ((LOOK,), stretch(Fraction(-1, 2), Fraction(1, 2))),
                            ((LOOK, WISH), stretch(0, 2)), ((LOOK, WISH, NEXT),
                            stretch(Fraction(1, 2), Fraction(3, 2))),
                            ((LOOK, WISH, LATE), test_steps.never(1)), ((LOOK, WISH, LATE, WISH), test_steps.never(1)),
                            ((LOOK, WISH, LATE, WISH, LOOK), test_steps.never(1))]:
            self.assertEqual(unchanged(self, possible, WALK, GLANCE, ROOM, record), due)
        self.assertEqual(unchanged(self, never, WALK, GLANCE, ROOM, (LOOK, WISH, LATE))[0], 2)
        self.assertEqual(never(WALK, GLANCE, ROOM, (LATE, WISH, LATE))[0], 0)
        self.assertEqual(never(WALK, GLANCE, ROOM, (LOOK, WISH, LATE, WISH, LOOK))[0], 2)
        self.assertIsNone(never(WALK, GLANCE, ROOM, (LOOK, WISH, NEXT)))
        self.assertIsNone(never(WALK, GLANCE, ROOM, ()))

    def test_nothing_seen(self):
        # Looks of no coordinates tell nothing: what is possible is what is come to by the wishes.
        told = seeded(461)
        for plant, _, room in trips(told, 12):
            wishes = [from_numbers(told.choice(points_within(plant[4], told, 2))) for _ in range(2)]
            due = lean(room)
            for u in wishes:
                due = come_by(plant, due, u)
            record = ((), wishes[0], (), wishes[1])
            self.assertEqual(possible(plant, BLINDFOLD, room, record), due)
            self.assertEqual(possible(plant, BLINDFOLD, room, record + ((),)), due)
            self.assertEqual(possible(plant, BLINDFOLD, room, ()), lean(room))

    def test_by_traces_and_tallies(self):
        told = seeded(462)
        kinds = {}
        for plant, sight, room, record in records(told, 45):
            args = (plant, sight, room, record)
            found = unchanged(self, possible, *args)
            self.assertEqual(found, lean(found))
            shown = unchanged(self, never, *args)
            self.assertIs(shown is None, not is_bare(found))
            kinds[shown is None, len(record) % 2, len(record)] = True
            if shown is not None:
                k, told_tally = shown
                self.assertEqual(k % 2, 0)
                self.assertFalse(is_bare(possible(plant, sight, room, record[:k])))
                self.assertIsNone(judge_tally(plant, sight, room, record[:k + 1], None, told_tally))
                self.assertIsNone(tally_referee(plant, sight, room, record[:k + 1], None, told_tally))
                self.assertIsNone(tally(*args, ((0,) * len(plant[0]), 5)))
                self.assertIsNone(trace_to(*args, pt(*[0] * len(plant[0]))))
                continue
            for x in corners(found) + [from_numbers(x) for x in points_within(found, told, 1)[-1:]]:
                trace = unchanged(self, trace_to, *args, x)
                self.assertIsNone(judge_trace(*args, x, trace))
                self.assertIsNone(trace_referee(*args, x, trace))
            for a, b in found[1]:
                for row in ((a, b), (tuple(2 * v for v in a), 2 * b + 1)):
                    shown_row = unchanged(self, tally, *args, row)
                    self.assertIsNone(judge_tally(*args, row, shown_row))
                    self.assertIsNone(tally_referee(*args, row, shown_row))
                if any(a):
                    self.assertIsNone(tally(*args, (a, b - 1)))
            for x in near(told, found, 1):
                self.assertIs(trace_to(*args, from_numbers(x)) is None, not is_within(found, x))
        self.assertEqual({kind[:2] for kind in kinds}, {(True, 0), (True, 1), (False, 0), (False, 1)})

    def test_drawn_traces_end_there(self):
        told = seeded(463)
        for plant, sight, room in trips(told, 30):
            record, (x, winds, slipped), standing = some_record(told, plant, sight, room, told.randint(1, 3), True)
            self.assertTrue(is_within(possible(plant, sight, room, record), standing))
            value = (from_numbers(x), tuple(map(from_numbers, winds)), tuple(map(from_numbers, slipped)))
            self.assertIsNone(judge_trace(plant, sight, room, record, from_numbers(standing), value))
            # What is possible hangs on what was possible ahead and on the last member alone.
            ahead = possible(plant, sight, room, record[:2])
            self.assertEqual(possible(plant, sight, ahead, record[2:]), possible(plant, sight, room, record))


    def test_member_by_member(self):
        # Behind a look there are those of the standings ahead that may give it; behind a wish what comes of them.
        told = seeded(466)
        for plant, sight, room, record in records(told, 40):
            rooms = [possible(plant, sight, room, record[:k]) for k in range(len(record) + 1)]
            for k, member in enumerate(record):
                if k % 2:
                    for x in points_within(rooms[k], told, 2):
                        for w in points_within(plant[5], told, 1)[:2]:
                            self.assertTrue(is_within(rooms[k + 1], moved(plant, x, numbers(member), w)))
                    self.assertIs(is_bare(rooms[k]), is_bare(rooms[k + 1]))
                    continue
                for x in points_within(rooms[k], told, 3) + near(told, rooms[k + 1], 1):
                    due = is_within(rooms[k], x) and is_given(sight, x, numbers(member))
                    self.assertEqual(is_within(rooms[k + 1], x), due)


class TestJudges(unittest.TestCase):
    def test_all_sorts(self):
        told = seeded(464)
        faults = {}
        for plant, sight, room, record in records(told, 40):
            args = (plant, sight, room, record)
            found = possible(*args)
            if is_bare(found):
                k, told_tally = never(*args)
                value = referees.changed(told, told_tally, ODD)
                self.assertEqual(judge_tally(plant, sight, room, record[:k + 1], None, value),
                                 tally_referee(plant, sight, room, record[:k + 1], None, value))
                continue
            x = corners(found)[0]
            trace = trace_to(*args, x)
            for _ in range(5):
                value = referees.changed(told, trace, ODD)
                fault = judge_trace(*args, x, value)
                self.assertEqual(fault, trace_referee(*args, x, value), (args, value))
                faults["trace", fault and fault[0]] = True
            for row in found[1][:2]:
                shown = tally(*args, row)
                for _ in range(2):
                    value = referees.changed(told, shown, ODD)
                    fault = judge_tally(*args, row, value)
                    self.assertEqual(fault, tally_referee(*args, row, value), (args, value))
                    faults["tally", fault and fault[0]] = True
                value = referees.changed(told, shown, ODD)
                self.assertEqual(judge_tally(*args, None, value), tally_referee(*args, None, value))
        due = {("trace", word) for word in ("form", "start", "slip", "look", "gust", "end")}
        self.assertTrue(due | {("tally", "form"), ("tally", "sum")} <= set(faults), faults)

    def traced(self, value, fault, x=pt(1)):
        for judge in (judge_trace, trace_referee):
            self.assertEqual(judge(WALK, GLANCE, ROOM, (LOOK, WISH, NEXT), x, value), fault, value)

    def test_each_fault_of_traces(self):
        half = Fraction(1, 2)
        for value, fault in [
                ((pt(0), (pt(0),), (pt(0), pt(0))), None), ((pt(half), (pt(-half),), (pt(-half), pt(0))), None),
                ((pt(3), (pt(9),), (pt(9), pt(9))), ("start",)), ((pt(0), (pt(9),), (pt(9), pt(9))), ("slip", 0)),
                ((pt(0), (pt(9),), (pt(half), pt(9))), ("look", 0)), ((pt(0), (pt(9),), (pt(0), pt(9))), ("gust", 0)),
                ((pt(0), (pt(half),), (pt(0), pt(9))), ("slip", 1)),
                ((pt(0), (pt(half),), (pt(0), pt(half))), ("look", 1)),
                ((pt(0), (pt(half),), (pt(0), pt(-half))), ("end",)), ((pt(0), (pt(0),), (pt(0),)), ("form",)),
                ((pt(0), (), (pt(0), pt(0))), ("form",)), ((pt(0), (pt(0),), (pt(0), ())), ("form",)),
                ((pt(0, 0), (pt(0),), (pt(0), pt(0))), ("form",)), ((pt(0), (pt(0, 0),), (pt(0), pt(0))), ("form",)),
                ([pt(0), (pt(0),), (pt(0), pt(0))], ("form",)), ((pt(0), [pt(0)], (pt(0), pt(0))), ("form",))]:
            self.traced(value, fault)
        self.traced((pt(0), (pt(half),), (pt(0), pt(-half))), None, pt(Fraction(3, 2)))
        for odd in ODD:
            for value in (odd, (odd, (pt(0),), (pt(0), pt(0))), (pt(0), odd, (pt(0), pt(0))), (pt(0), (pt(0),), odd),
                          (pt(0), (odd,), (pt(0), pt(0))), (pt(0), (pt(0),), (odd, pt(0)))):
                self.traced(value, trace_referee(WALK, GLANCE, ROOM, (LOOK, WISH, NEXT), pt(1), value))

    def tallied(self, row, value, fault, record=(LOOK, WISH, NEXT)):
        for judge in (judge_tally, tally_referee):
            self.assertEqual(judge(WALK, GLANCE, ROOM, record, row, value), fault, value)

    def test_each_fault_of_tallies(self):
        # The last look alone shows the row 2 x <= 3; the first look and the gust show x <= 2.
        late = (pt(0, 0), (pt(0, 0),), (pt(0, 0), pt(1, 0)))
        early = (pt(0, 0), (pt(0, Fraction(1, 2)),), (pt(Fraction(1, 2), 0), pt(0, 0)))
        first = (pt(1, 0), (pt(0, Fraction(1, 2)),), (pt(0, 0), pt(0, 0)))
        for row, value, fault in [
                (((2,), 3), late, None), (((2,), 4), late, None), (((2,), 2), late, ("sum",)),
                (((1,), 2), late, ("sum",)),
                (((1,), 2), early, None), (((1,), 1), early, ("sum",)), (((1,), 4), first, None),
                (((1,), 3), first, ("sum",)),
                (None, late, ("sum",)), (((0,), 0), (pt(0, 0), (pt(0, 0),), (pt(0, 0), pt(0, 0))), None),
                (((0,), -1), (pt(0, 0), (pt(0, 0),), (pt(0, 0), pt(0, 0))), ("sum",)),
                (((2,), 3), (pt(0, -1),) + late[1:], ("form",)), (((2,), 3), (pt(0),) + late[1:], ("form",)),
                (((2,), 3), late[:2], ("form",)), (((2,), 3), (late[0], (), late[2]), ("form",)),
                (((2,), 3), (late[0], late[1], late[2][:1]), ("form",)), (((2,), 3), list(late), ("form",)),
                (((2,), 3), (late[0], (pt(0),), late[2]), ("form",))]:
            self.tallied(row, value, fault)
        none = (pt(0, 0), (pt(0, Fraction(1, 1)),), (pt(1, 0), pt(0, 1)))
        self.assertIs(never(WALK, GLANCE, ROOM, (LOOK, WISH, LATE))[0], 2)
        self.tallied(None, none, None, (LOOK, WISH, pt(4)))
        self.tallied(None, none, ("sum",), (LOOK, WISH, pt(Fraction(29, 10))))
        for odd in ODD:
            for value in (odd, (odd,) + late[1:], (late[0], odd, late[2]), (late[0], late[1], odd),
                    (late[0], (odd,), late[2])):
                for row in (((2,), 3), None):
                    self.tallied(row, value, tally_referee(WALK, GLANCE, ROOM, (LOOK, WISH, NEXT), row, value))


class TestErrors(unittest.TestCase):
    def calls(self, plant, sight, room, record):
        x, row = pt(*[0] * len(plant[0])), ((0,) * len(plant[0]), 0)
        args = (plant, sight, room, record)
        return [(possible, args), (trace_to, args + (x,)), (judge_trace, args + (x, None)), (tally, args + (row,)),
                (never, args), (judge_tally, args + (row, None)), (judge_tally, args + (None, None))]

    def test_of_all_functions(self):
        bare, far = test_steps.never(1), (1, (((1,), 0),))
        for room, error in ((bare, Bare), (far, Unbounded)):
            for call, args in self.calls(WALK, GLANCE, room, (LOOK,)):
                self.assertRaises(error, call, *args)
            for call, args in self.calls(WALK, GLANCE, room, (LOOK, pt(2), LOOK, pt(3))):
                with self.assertRaises(BadWish) as caught:
                    call(*args)
                self.assertEqual(caught.exception.number, 1)
        for record, number_told in (((LOOK, WISH, LATE, pt(2)), 3), ((LOOK, pt(fr(3, 2)[0]), LOOK, pt(9)), 1),
                                    ((LOOK, WISH, LOOK, WISH, LOOK, pt(-2)), 5)):
            for call, args in self.calls(WALK, GLANCE, ROOM, record):
                with self.assertRaises(BadWish) as caught:
                    call(*args)
                self.assertEqual(caught.exception.number, number_told)

    def test_too_great(self):
        plain = ((pt(1, 0), pt(0, 1)), cube(2, 0, 0))
        for record in ((), (pt(1, 1),), (pt(1, 1), ())):
            for call, args in self.calls(STILL, plain, polygon(81), record):
                self.assertRaises(TooGreat, call, *args)
        self.assertEqual(possible(STILL, plain, polygon(80), (pt(1, 1), ())), lean(cube(2, 1, 1)))
        # A look cuts a corner off: one row more.
        cut = ((pt(1, 1),), rough(-10 ** 6, 0))
        self.assertEqual(len(possible(STILL, cut, polygon(79), (pt(1),))[1]), 80)
        self.assertEqual(len(possible(STILL, cut, polygon(80), (pt(0),))[1]), 80)
        for record in ((pt(1),), (pt(1), ()), (pt(1), (), pt(5000))):
            for call, args in self.calls(STILL, cut, polygon(80), record):
                self.assertRaises(TooGreat, call, *args)
        # What is come to has the gusts' sides, too.
        blown = STILL[:2] + ((pt(1, 0), pt(0, 1)), pt(0, 0), (0, ()), cube(2))
        for call, args in self.calls(blown, BLINDFOLD, polygon(79), ((), ())):
            self.assertRaises(TooGreat, call, *args)


class TestTime(unittest.TestCase):
    def test_just_within(self):
        told = seeded(465)
        some = lambda: Fraction(told.randint(-9 ** 6, 9 ** 6), 9 ** 6)
        plant = (tuple(pt(some(), some()) for _ in range(2)), tuple(pt(some(), some()) for _ in range(2)),
                 tuple(pt(some(), some()) for _ in range(2)), pt(some(), some()), cube(2, -2, 2), cube(2))
        sight = (tuple(pt(some(), some()) for _ in range(3)), cube(3))
        room = (2, cube(2, -9, 9)[1] + tuple(((told.randint(-9, 9), told.randint(-9, 9)), 60) for _ in range(8)))
        record, _, standing = some_record(told, plant, sight, room, 7)
        self.assertEqual(len(record), 13)
        found = possible(plant, sight, room, record)
        trace = trace_to(plant, sight, room, record, from_numbers(standing))
        self.assertIsNone(judge_trace(plant, sight, room, record, from_numbers(standing), trace))
        shown = tally(plant, sight, room, record, found[1][0])
        self.assertIsNone(judge_tally(plant, sight, room, record, found[1][0], shown))
        self.assertTrue(seen_by(sight, standing))
