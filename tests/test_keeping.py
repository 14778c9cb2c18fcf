import unittest
from fractions import Fraction

from everygust.corners import corners
from everygust.errors import TooGreat
from everygust.keeping import grown, judge_keep, keep_fault, keep_paper, layers, lost_at, sure_of
from everygust.lean import lean
from everygust.levels import levels
from everygust.rows import is_in, joined
from everygust.steps import back
from everygust.weights import is_bare, is_inside
from everygust.wishes import bar
from tests import referees
from tests.helpers import (
    ODD, corners_by_trying, cube, is_within, numbers, polygon, product_of, pt, seeded, slanted, unchanged)
from tests.plants import (
    DRIFT, SLIDE, STILL, from_numbers, gusts_of, is_back, near, outs, points_within, some_bounded, some_plant)
from tests.test_levels import stretch
from tests.test_lots import rough
from tests.test_steps import never
from tests.test_wishes import bar_referee
from tests.test_weights import BARE

DOUBLE = ((pt(2),), (pt(1),), (pt(0),), pt(0), rough(-1, 1), rough(0, 0))
HALVE = ((pt(Fraction(1, 2)),), (pt(1),), (pt(1),), pt(0), rough(0, 0), rough(-1, 1))
TEN = rough(-10, 10)


def keep_referee(plant, walls, room, value):
    n, m = room[0], plant[4][0]
    if referees.told(value, "kept", 2):
        pairs = value[1]
        good = type(pairs) is tuple and all(
            type(pair) is tuple and len(pair) == 2 and referees.is_list_of(pair[0], n)
            and referees.is_list_of(pair[1], m) for pair in pairs)
        if not good:
            return ("form",)
        due = [] if is_bare(room) else corners(room)
        found = [("lacks", x) for x in due if x not in [corner for corner, _ in pairs]]
        for j, (corner, _) in enumerate(pairs):
            is_after = j == 0 or numbers(corner) > numbers(pairs[j - 1][0])
            found += [("spare", j)] * (corner not in due or not is_after)
        for j, (corner, wish) in enumerate(pairs):
            x, u = numbers(corner), numbers(wish)
            found += [("wall", j)] * (not is_within(walls, x)) + [("wish", j)] * (not is_within(plant[4], u))
            out = outs(plant, x, u, room)
            found += [("out", j, from_numbers(out[0]))] if out else []
        return referees.first(found)
    if referees.told(value, "wall", 3) and referees.is_list_of(value[1], n):
        k = value[2]
        if type(k) is int and 0 <= k < len(walls[1]):
            x = numbers(value[1])
            found = [("standing",)] * (not is_within(room, x))
            return referees.first(found + [("row",)] * (product_of(walls[1][k][0], x) <= walls[1][k][1]))
    if referees.told(value, "lost", 3) and referees.is_list_of(value[1], n):
        fault = bar_referee(plant, room, value[1], value[2])
        if fault != ("form",):
            return fault if is_within(room, numbers(value[1])) else ("standing",)
    return ("form",)


def trips(told, many):
    """Plants with walls and a room."""
    found = [(DOUBLE, TEN, rough(-1, 1)), (DOUBLE, TEN, rough(-2, 2)), (HALVE, TEN, rough(-2, 2)), (HALVE, rough(-1, 1), rough(-1, 1)),
             (HALVE, TEN, rough(-11, 2)), (SLIDE, cube(2, -3, 3), BARE), (STILL, cube(2), cube(2)),
             (STILL, never(2), cube(2)), (DRIFT, never(1), never(1)), (DRIFT, TEN, TEN)]
    for _ in range(many):
        plant = some_plant(told)
        n = len(plant[0])
        walls = cube(n, -told.randint(1, 4), told.randint(1, 4))
        room = some_bounded(told, n, False) if told.random() < 0.7 else walls
        found.append((plant, walls, room))
    return found


class TestKept(unittest.TestCase):
    def test_by_hand(self):
        self.assertIsNone(unchanged(self, keep_fault, DOUBLE, TEN, rough(-1, 1)))
        self.assertEqual(keep_fault(DOUBLE, TEN, rough(-2, 2)), ("lost", pt(-2)))
        self.assertEqual(keep_fault(DOUBLE, TEN, rough(-1, 2)), ("lost", pt(2)))
        self.assertEqual(keep_fault(DOUBLE, rough(-1, 0), rough(-2, 1)), ("wall", pt(-2)))
        self.assertEqual(keep_fault(DOUBLE, rough(-3, 0), rough(-2, 1)), ("wall", pt(1)))
        self.assertIsNone(keep_fault(HALVE, TEN, rough(-2, 2)))
        self.assertEqual(keep_fault(HALVE, TEN, (1, (((2,), 3), ((-2,), 3)))), ("lost", pt(Fraction(-3, 2))))
        self.assertIsNone(keep_fault(DOUBLE, never(1), never(1)))
        self.assertEqual(keep_fault(DOUBLE, never(1), rough(0, 0)), ("wall", pt(0)))
        self.assertEqual(keep_paper(DOUBLE, never(1), never(1)), ("kept", ()))
        self.assertEqual(unchanged(self, keep_paper, HALVE, TEN, rough(-2, 2)), (
            "kept", ((pt(-2), pt(0)), (pt(2), pt(0)))))

    def test_all_sorts(self):
        told = seeded(341)
        words, faults = {}, {}
        for plant, walls, room in trips(told, 120):
            ends = corners_by_trying(room)
            beyond = [x for x in ends if not is_within(walls, x)]
            lost = [x for x in ends if not is_back(plant, x, room)]
            due = ("wall", from_numbers(beyond[0])) if beyond else ("lost", from_numbers(lost[0])) if lost else None
            self.assertEqual(unchanged(self, keep_fault, plant, walls, room), due)
            paper = unchanged(self, keep_paper, plant, walls, room)
            self.assertIs(paper[0] == "kept", due is None)
            words[paper[0]] = True
            self.assertIsNone(judge_keep(plant, walls, room, paper))
            self.assertIsNone(keep_referee(plant, walls, room, paper))
            for _ in range(5):
                value = referees.changed(told, paper, ODD)
                fault = judge_keep(plant, walls, room, value)
                self.assertEqual(fault, keep_referee(plant, walls, room, value), (plant, walls, room, value))
                faults[fault and fault[0]] = True
        self.assertEqual(sorted(words), ["kept", "lost", "wall"])
        self.assertTrue({"form", "lacks", "wish", "standing", "row", "turn"} <= set(faults), faults)

    def judged(self, plant, walls, room, value, fault):
        self.assertEqual(judge_keep(plant, walls, room, value), fault, value)
        self.assertEqual(keep_referee(plant, walls, room, value), fault, value)

    def test_each_fault(self):
        one = rough(-1, 1)
        good = ((pt(-1), pt(1)), (pt(1), pt(-1)))
        for pairs, fault in [
                (good, None), (good[:1], ("lacks", pt(1))), ((), ("lacks", pt(-1))), (good[::-1], ("spare", 1)),
                (good + good[1:], ("spare", 2)), (good[:1] + ((pt(0), pt(0)),) + good[1:], ("spare", 1)),
                ((good[0], (pt(1), pt(-2))), ("wish", 1)), (((pt(-1), pt(0)), good[1]), ("out", 0, pt(0))),
                (((pt(-1),), good[1]), ("form",)), (list(good), ("form",)), ((good[0], (pt(1), pt(1, 1))), ("form",))]:
            self.judged(DOUBLE, TEN, one, ("kept", pairs), fault)
        self.judged(DOUBLE, rough(-1, 0), one, ("kept", good), ("wall", 1))
        self.judged(DOUBLE, rough(-1, 0), one, ("kept", ((pt(-1), pt(5)), good[1])), ("wish", 0))
        self.judged(DOUBLE, TEN, never(1), ("kept", ()), None)
        self.judged(DOUBLE, TEN, never(1), ("kept", good), ("spare", 0))
        self.judged(HALVE, TEN, rough(-2, 1), ("kept", ((pt(-2), pt(0)), (pt(1), pt(0)))), ("out", 1, pt(1)))
        for x, k, fault in [(pt(1), 0, None), (pt(1), 1, ("row",)), (pt(0), 0, ("row",)), (pt(2), 0, ("standing",)),
                            (pt(2), 1, ("standing",)), (pt(1), 2, ("form",)), (pt(1), -1, ("form",)),
                            (pt(1), True, ("form",)), (pt(1, 1), 0, ("form",)), (pt(1), None, ("form",))]:
            self.judged(DOUBLE, rough(-1, 0), one, ("wall", x, k), fault)
        two = rough(-2, 2)
        shut = bar(DOUBLE, two, pt(2))
        for x, told, fault in [
                (pt(2), shut, None), (pt(3), shut, ("standing",)), (pt(1), shut, ("sum",)), (pt(-2), shut, ("sum",)),
                (pt(2), (shut[0], pt(0, 0)), ("turn",)), (pt(3), (shut[0], pt(0, 0)), ("standing",)),
                (pt(2), (((0, (1, 1), pt(1)),), shut[1]), ("gust", 0)), (pt(2), (shut[0],), ("form",)),
                (pt(3), (shut[0],), ("form",)),
                (pt(2), (shut[0], pt(-1, 0)), ("form",)), (pt(2), (((2, (1, 1), pt(0)),), shut[1]), ("form",)),
                (pt(2), (((0, (0, 1), pt(0)),), shut[1]), ("form",)), (pt(2, 2), shut, ("form",))]:
            self.judged(DOUBLE, TEN, two, ("lost", x, told), fault)
        self.judged(DOUBLE, TEN, two, ("loose", pt(2), shut), ("form",))
        self.judged(DOUBLE, TEN, two, ["lost", pt(2), shut], ("form",))
        for odd in ODD:
            for value in (odd, ("kept", odd), ("kept", (odd,)), ("wall", odd, 0), ("wall", pt(1), odd), ("lost", odd, shut),
                          ("lost", pt(2), odd), ("lost", pt(2), (odd, shut[1])), ("lost", pt(2), (shut[0], odd))):
                self.judged(DOUBLE, TEN, two, value, keep_referee(DOUBLE, TEN, two, value))

    def test_many_corners(self):
        # A room is looked at however many corners and rows it has.
        self.assertIsNone(keep_fault(STILL, polygon(301), polygon(301)))
        paper = keep_paper(STILL, polygon(301), polygon(301))
        self.assertIsNone(judge_keep(STILL, polygon(301), polygon(301), paper))


class TestLayers(unittest.TestCase):
    def test_by_hand(self):
        word, rooms = unchanged(self, layers, DOUBLE, TEN, 2)
        self.assertEqual([word, rooms], ["open", (
            stretch(-10, 10), stretch(Fraction(-11, 2), Fraction(11, 2)), stretch(Fraction(-13, 4), Fraction(13, 4)))])
        self.assertEqual(layers(DOUBLE, TEN, 0), ("open", (stretch(-10, 10),)))
        self.assertEqual(layers(HALVE, TEN, 3), ("closed", (stretch(-10, 10),)))
        self.assertEqual(layers(HALVE, TEN, 0), ("open", (stretch(-10, 10),)))
        self.assertEqual(layers(HALVE, rough(-1, 1), 6), ("bare", (stretch(-1, 1), stretch(0, 0), never(1))))
        self.assertEqual(layers(HALVE, rough(-1, 1), 1), ("open", (stretch(-1, 1), stretch(0, 0))))
        self.assertEqual(layers(HALVE, rough(-1, 1), 2)[0], "bare")
        for most in (0, 3):
            self.assertEqual(layers(HALVE, never(1), most), ("bare", (never(1),)))

    def test_closed_later(self):
        # What is beyond 4 cannot be held back; the layers fall to it in one step, and stay.
        plant = ((pt(1),), (pt(1),), (pt(1),), pt(0), rough(-1, 0), rough(0, 1))
        self.assertEqual(layers(plant, rough(0, 4), 5), ("closed", (stretch(0, 4),)))
        push = ((pt(1),), (pt(0),), (pt(0),), pt(1), rough(0, 0), rough(0, 0))
        self.assertEqual(layers(push, rough(0, 2), 6), ("bare", (
            stretch(0, 2), stretch(0, 1), stretch(0, 0), never(1))))
        walk = ((pt(1, 1), pt(0, 1)), (pt(0), pt(0)), ((), ()), pt(0, 0), cube(1), (0, ()))
        word, rooms = layers(walk, (2, cube(2, 0, 2)[1] + (((0, -1), 0),)), 4)
        self.assertEqual(word, "open")
        self.assertEqual(rooms[1], lean((2, cube(2, 0, 2)[1] + (((1, 1), 2),))))
        fixed = ((pt(1, 0), pt(1, 0)), ((), ()), ((), ()), pt(0, 0), (0, ()), (0, ()))
        walls = (2, (((1, 0), 3), ((-1, 0), 0), ((0, 1), 2), ((0, -1), 0)))
        self.assertEqual(layers(fixed, walls, 1), ("open", (lean(walls), lean(cube(2, 0, 2)))))
        self.assertEqual(layers(fixed, walls, 2), ("closed", (lean(walls), lean(cube(2, 0, 2)))))
        self.assertEqual([lost_at(fixed, walls, most, pt(3, 0)) for most in (0, 1, 6)], [None, 1, 1])
        self.assertEqual([lost_at(fixed, walls, 6, pt(*x)) for x in ((4, 0), (2, 2), (0, 3))], [0, None, 0])

    def test_what_holds(self):
        told = seeded(342)
        words = {}
        for plant, walls, _ in trips(told, 60):
            most = told.randint(0, 4)
            word, rooms = unchanged(self, layers, plant, walls, most)
            words[word] = True
            every = levels(plant, walls, walls, most + 1)
            self.assertEqual(rooms, every[:len(rooms)])
            bare = [i for i in range(most + 1) if is_bare(every[i])]
            closed = [i for i in range(most) if every[i] == every[i + 1]]
            due = ("bare", bare[0]) if bare else ("closed", closed[0]) if closed else ("open", most)
            self.assertEqual((word, len(rooms) - 1), due)
            for one, other in zip(rooms, rooms[1:]):
                self.assertTrue(is_inside(other, one))
            if word == "closed":
                self.assertIsNone(keep_fault(plant, walls, rooms[-1]))
            for x in near(told, walls, 2)[:6]:
                point = from_numbers(x)
                first = [i for i in range(most + 1) if not is_in(every[i], point)]
                self.assertEqual(lost_at(plant, walls, most, point), first[0] if first else None)
        self.assertEqual(sorted(words), ["bare", "closed", "open"])

    def test_too_great(self):
        self.assertEqual(layers(STILL, polygon(80), 3), ("closed", (lean(polygon(80)),)))
        for most in (0, 2):
            self.assertRaises(TooGreat, layers, STILL, polygon(81), most)
            self.assertRaises(TooGreat, lost_at, STILL, polygon(81), most, pt(9, 9))
            self.assertRaises(TooGreat, sure_of, STILL, polygon(81), cube(2, 0, 0), most, pt(0, 0))
        # Layer 1 has more than 80 rows; it is looked at only if it is needed.
        turn = ((pt(0, 1), pt(-1, 0)), ((), ()), ((), ()), pt(0, 0), (0, ()), (0, ()))
        rows = []
        for k in range(1, 31):
            # Rows that are tight at one point each of a circle of 10.
            a = (31 * 31 - k * k, 62 * k)
            rows += [(a, 10 * (31 * 31 + k * k)), ((-a[0], -a[1]), 10 * (31 * 31 + k * k))]
        walls = (2, tuple(rows) + cube(2, -10, 10)[1])
        self.assertEqual(len(layers(turn, walls, 0)[1][0][1]), 64)
        self.assertRaises(TooGreat, layers, turn, walls, 1)
        self.assertRaises(TooGreat, lost_at, turn, walls, 1, pt(99, 0))
        self.assertRaises(TooGreat, sure_of, turn, walls, cube(2), 1, pt(0, 0))
        self.assertEqual(grown(turn, walls, cube(2), 4), ("closed", (lean(cube(2)),)))


class TestGrown(unittest.TestCase):
    def test_by_hand(self):
        self.assertEqual(unchanged(self, grown, HALVE, TEN, rough(-2, 2), 2), ("closed", (stretch(-2, 2),)))
        self.assertEqual(grown(DOUBLE, TEN, rough(-1, 1), 3), ("closed", (stretch(-1, 1),)))
        self.assertEqual(grown(DOUBLE, TEN, rough(-1, 1), 0), ("open", (stretch(-1, 1),)))
        self.assertEqual(grown(DOUBLE, TEN, rough(0, 0), 2), ("open", (
            stretch(0, 0), stretch(Fraction(-1, 2), Fraction(1, 2)), stretch(Fraction(-3, 4), Fraction(3, 4)))))
        self.assertEqual(grown(DOUBLE, TEN, never(1), 2), ("closed", (never(1),)))
        self.assertEqual(grown(DOUBLE, TEN, never(1), 0), ("open", (never(1),)))
        self.assertEqual(grown(DOUBLE, never(1), never(1), 1), ("closed", (never(1),)))
        self.assertEqual(grown(DRIFT, rough(-3, 3), rough(-1, 1), 4), ("closed", (
            stretch(-1, 1), stretch(-2, 2), stretch(-3, 3))))
        self.assertEqual(grown(DRIFT, rough(-3, 3), rough(-1, 1), 2)[0], "open")

    def test_sure(self):
        walls, room = rough(-10, 10), rough(0, 0)
        for x, answer in ((0, ("kept", 0)), (Fraction(1, 2), ("kept", 1)), (Fraction(3, 4), ("kept", 2)),
                          (Fraction(4, 5), ("open",)), (Fraction(11, 2), ("lost", 2)), (6, ("lost", 1)), (11, ("lost", 0))):
            self.assertEqual(unchanged(self, sure_of, DOUBLE, walls, room, 2, pt(x)), answer)
        self.assertEqual(sure_of(DOUBLE, walls, never(1), 2, pt(0)), ("open",))
        self.assertEqual(sure_of(DOUBLE, never(1), never(1), 2, pt(0)), ("lost", 0))
        self.assertEqual(sure_of(DRIFT, rough(-3, 3), rough(-1, 1), 4, pt(3)), ("kept", 2))
        self.assertEqual(sure_of(DRIFT, rough(-3, 3), rough(-1, 1), 4, pt(4)), ("lost", 0))

    def test_what_holds(self):
        told = seeded(343)
        words = {}
        for plant, walls, room in trips(told, 120):
            for kept in (room, layers(plant, walls, 3)[1][-1], self.less(room)):
                if keep_fault(plant, walls, kept) is not None:
                    continue
                most = told.randint(0, 3)
                word, rooms = unchanged(self, grown, plant, walls, kept, most)
                self.assertEqual(rooms[0], lean(kept))
                every = [lean(kept)]
                for _ in range(most):
                    every.append(lean(joined(walls, back(plant, every[-1]))))
                closed = [i for i in range(most) if every[i] == every[i + 1]]
                self.assertEqual((word, len(rooms) - 1), ("closed", closed[0]) if closed else ("open", most))
                self.assertEqual(list(rooms), every[:len(rooms)])
                layer = layers(plant, walls, most)[1][-1]
                for one in rooms:
                    self.assertIsNone(keep_fault(plant, walls, one))
                    self.assertTrue(is_inside(one, layer))
                for x in near(told, walls, 2)[:5] + points_within(rooms[-1], told, 2)[:2]:
                    point = from_numbers(x)
                    answer = sure_of(plant, walls, kept, most, point)
                    words[answer[0]] = True
                    inside = [i for i, one in enumerate(rooms) if is_in(one, point)]
                    lost = lost_at(plant, walls, most, point)
                    due = ("kept", inside[0]) if inside else ("open",) if lost is None else ("lost", lost)
                    self.assertEqual(answer, due)
        self.assertEqual(sorted(words), ["kept", "lost", "open"])

    def less(self, room):
        """The first corner alone, if there is one."""
        ends = corners_by_trying(room)
        point = ends[0] if ends else (0,) * room[0]
        rows = []
        for k, x in enumerate(point):
            x = Fraction(x)
            a = tuple(x.denominator if j == k else 0 for j in range(room[0]))
            rows += [(a, x.numerator), (tuple(-v for v in a), -x.numerator)]
        return (room[0], tuple(rows))

    def test_too_great(self):
        # The lean room that is told first may have any rows, but what is grown from it may not.
        many = polygon(81)
        self.assertEqual(len(grown(STILL, many, many, 0)[1][0][1]), 81)
        self.assertRaises(TooGreat, grown, STILL, many, many, 1)
        self.assertRaises(TooGreat, sure_of, STILL, many, many, 0, pt(0, 0))
        self.assertEqual(grown(STILL, polygon(80), polygon(80), 1)[0], "closed")
        flat = slanted(polygon(78))
        still = ((pt(1, 0, 0), pt(0, 1, 0), pt(0, 0, 1)), ((), (), ()), ((), (), ()), pt(0, 0, 0), (0, ()), (0, ()))
        self.assertEqual(layers(still, flat, 2)[0], "closed")

    def test_just_within_in_time(self):
        told = seeded(344)
        plant = (tuple(pt(*[Fraction(told.randint(-700, 700), 999) for _ in range(3)]) for _ in range(3)),
                 tuple(pt(told.randint(-2, 2), 1) for _ in range(3)),
                 tuple(pt(Fraction(1, 9), Fraction(1, 7)) for _ in range(3)), pt(0, 0, 0), cube(2, -3, 3), cube(2))
        rows = list(cube(3, -50, 50)[1])
        while len(rows) < 12:
            a = tuple(told.randint(-10 ** 6, 10 ** 6) for _ in range(3))
            rows.append((a, 35 * sum(abs(k) for k in a)))
        walls = (3, tuple(rows))
        word, rooms = layers(plant, walls, 6)
        self.assertIn(word, ("open", "closed"))
        paper = keep_paper(plant, walls, rooms[-1])
        self.assertIsNone(judge_keep(plant, walls, rooms[-1], paper))
        self.assertTrue(len(gusts_of(plant)) == 4)
