import itertools
import math
import unittest
from fractions import Fraction

from everygust.errors import TooGreat, Unbounded
from everygust.figures import (
    first_fault, least_figures, rounded, rounded_point, rounded_wishes, shows_fault, strip_standing, strips)
from everygust.lean import lean
from everygust.lots import lot_within
from everygust.rows import row_of
from tests import referees
from tests.helpers import (
    ODD, corners_by_trying, cube, fr, is_within, number, numbers, product_of, pt, seeded, unchanged)
from tests.plants import (
    STILL, from_numbers, gusts_of, moved, points_within, some_bounded, some_matrix, some_plant, some_standing)
from tests.test_levels import stretch
from tests.test_lots import rough
from tests.test_steps import never

STAND = ((pt(1),), (pt(1),), ((),), pt(0), rough(-1, 1), (0, ()))
NEAR = (1, (((4,), 1), ((-4,), 1)))
BACK = (((1, ()), (pt(-1),), pt(0)),)


def nearest(t, q):
    """The integer m for which m / q is t rounded: of two that are equally near the lesser one."""
    t = Fraction(t)
    low = math.floor(t * q)
    return low if t * q - low <= Fraction(1, 2) else low + 1


def told_by(piece, x):
    return [product_of(numbers(line), x) + number(k) for line, k in zip(piece[1], piece[2])]


def strip_rows(piece, room, q, t):
    """The rows of the closed room of a strip, of Fractions."""
    rows = [([Fraction(k) for k in a], Fraction(b)) for a, b in room[1] + piece[0][1]]
    for line, k, m in zip(piece[1], piece[2], t):
        rows.append(([2 * q * number(v) for v in line], 2 * m + 1 - 2 * q * number(k)))
        rows.append(([-2 * q * number(v) for v in line], 1 - 2 * m + 2 * q * number(k)))
    return rows


def strip_corners(piece, room, q, t):
    """The corners of the closed room of a strip, None if it is none: by the corners, some of which are inside."""
    ends = corners_by_trying((room[0], strip_rows(piece, room, q, t)))
    for j, m in enumerate(t):
        if not any(2 * q * told_by(piece, x)[j] > 2 * m - 1 for x in ends):
            return None
    return ends or None


def strips_due(piece, room, q):
    """The ascending pairs (t, corners) of all strips."""
    ends = corners_by_trying((room[0], room[1] + piece[0][1]))
    if not ends:
        return []
    ranges = []
    for j in range(len(piece[1])):
        told = [nearest(told_by(piece, x)[j], q) for x in ends]
        ranges.append(range(min(told), max(told) + 1))
    found = [(t, strip_corners(piece, room, q, t)) for t in itertools.product(*ranges)]
    return [(t, corners) for t, corners in found if corners is not None]


def width_due(piece, room, q):
    ends = corners_by_trying((room[0], room[1] + piece[0][1]))
    found = 1 if ends else 0
    for j in range(len(piece[1])):
        told = [nearest(told_by(piece, x)[j], q) for x in ends]
        found *= max(told) - min(told) + 1 if told else 0
    return found


def is_in_strip(piece, room, q, t, x):
    if not is_within(room, x) or not is_within(piece[0], x):
        return False
    return [nearest(u, q) for u in told_by(piece, x)] == list(t)


def due_fault(plant, room, goal, table, q):
    """The word of the first fault, with what else is due of it; None if there is none."""
    if lot_within((room,), tuple(piece[0] for piece in table)) is not None:
        return ("hole",)
    for i, piece in enumerate(table):
        for t, ends in strips_due(piece, room, q):
            u = [Fraction(m, q) for m in t]
            if not is_within(plant[4], u):
                return ("wish", i, t)
            if any(not is_within(goal, moved(plant, x, u, w)) for x in ends for w in gusts_of(plant)):
                return ("next", i, t)
    return None


def is_shown(plant, room, goal, table, q, value, due):
    """Whether a value is the first fault, what is due being told."""
    if due is None or type(value) is not tuple or len(value) != {"hole": 2, "wish": 4, "next": 5}[due[0]]:
        return False
    if type(value[0]) is not str or value[0] != due[0]:
        return False
    n = room[0]
    if due[0] == "hole":
        if not referees.is_list_of(value[1], n):
            return False
        x = numbers(value[1])
        return is_within(room, x) and not any(is_within(piece[0], x) for piece in table)
    if type(value[1]) is not int or value[1] != due[1] or type(value[2]) is not tuple or value[2] != due[2]:
        return False
    if not all(type(m) is int for m in value[2]) or not referees.is_list_of(value[3], n):
        return False
    x = numbers(value[3])
    if not is_in_strip(table[value[1]], room, q, value[2], x):
        return False
    if due[0] == "wish":
        return True
    if not referees.is_list_of(value[4], plant[5][0]) or not is_within(plant[5], numbers(value[4])):
        return False
    return not is_within(goal, moved(plant, x, [Fraction(m, q) for m in value[2]], numbers(value[4])))


def some_table(told, n, m, many):
    """A table; one of its pieces may have a room without rows."""
    found = []
    for _ in range(many):
        room = (n, ()) if told.random() < 0.4 else cube(n, -told.randint(0, 3), told.randint(0, 3))
        if told.random() < 0.2:
            room = some_bounded(told, n)
        found.append((room, some_matrix(told, m, n, 1), pt(*some_standing(told, m, 1))))
    return tuple(found)


def trips(told, many):
    """Plants with a room, a goal, a table and a q."""
    found = [(STAND, rough(-1, 1), NEAR, BACK, q) for q in (1, 2, 3)]
    found += [(STAND, rough(-1, 1), NEAR, BACK[:0], 1), (STAND, never(1), NEAR, BACK, 1),
        (STAND, rough(1, 0), NEAR, (), 1)]
    for _ in range(many):
        n = told.choice([1, 1, 2])
        plant = some_plant(told, n, told.choice([0, 1, 1, 2]), told.randint(0, 1))
        goal = cube(n, -told.randint(1, 9), told.randint(1, 9))
        if told.random() < 0.2:
            goal = (n, goal[1][:1])
        table = some_table(told, n, plant[4][0], told.randint(0, 3))
        found.append((plant, some_bounded(told, n, False), goal, table, told.choice([1, 1, 2, 3, 5])))
    return found


class TestRounded(unittest.TestCase):
    def test_by_hand(self):
        for t, q, due in [(Fraction(-1, 2), 1, -1), (Fraction(1, 2), 1, 0), (Fraction(3, 2), 1, 1),
                (Fraction(-3, 2), 1, -2),
                          (Fraction(51, 100), 1, 1), (Fraction(-49, 100), 1, 0), (Fraction(-51, 100), 1, -1), (0, 7, 0),
                          (Fraction(1, 4), 2, 0), (Fraction(-1, 4), 2, Fraction(-1, 2)),
                          (Fraction(3, 4), 2, Fraction(1, 2)),
                          (Fraction(1, 3), 60, Fraction(1, 3)), (Fraction(10 ** 40 + 1, 2 * 10 ** 40), 1, 1),
                          (Fraction(10 ** 40 - 1, 2 * 10 ** 40), 1, 0), (-Fraction(10 ** 40 - 1, 2 * 10 ** 40), 1, 0),
                          (-Fraction(10 ** 40 + 1, 2 * 10 ** 40), 1, -1)]:
            self.assertEqual(unchanged(self, rounded, fr(t), q), fr(due), (t, q))
            self.assertEqual(rounded_point(pt(t, 0, t), q), pt(due, 0, due))
        self.assertEqual(rounded_point((), 3), ())

    def test_what_holds(self):
        told = seeded(511)
        for _ in range(300):
            t, q = Fraction(told.randint(-60, 60), told.randint(1, 12)), told.randint(1, 60)
            m = number(rounded(fr(t), q)) * q
            self.assertEqual(m.denominator, 1)
            self.assertTrue(2 * m - 1 < 2 * q * t <= 2 * m + 1)


class TestStrips(unittest.TestCase):
    def test_by_hand(self):
        found = unchanged(self, strips, BACK[0], rough(-1, 1), 2)
        self.assertEqual([t for t, _ in found], [(-2,), (-1,), (0,), (1,), (2,)])
        self.assertEqual([closed for _, closed in found], [
            stretch(Fraction(3, 4), 1), stretch(Fraction(1, 4), Fraction(3, 4)),
            stretch(Fraction(-1, 4), Fraction(1, 4)),
            stretch(Fraction(-3, 4), Fraction(-1, 4)), stretch(-1, Fraction(-3, 4))])
        self.assertEqual(unchanged(self, strip_standing, BACK[0], rough(-1, 1), 2, (3,)), None)
        # A room that only touches a strip: by its closed side it has it, by its open one it has not.
        plain = ((1, ()), (pt(1),), pt(0))
        self.assertEqual(strips(plain, (1, (((2,), 1), ((-2,), -1))), 1),
            [((0,), stretch(Fraction(1, 2), Fraction(1, 2)))])
        self.assertIsNone(strip_standing(plain, (1, (((2,), 1), ((-2,), -1))), 1, (1,)))
        self.assertEqual(strip_standing(plain, (1, (((2,), 1), ((-2,), -1))), 1, (0,)), pt(Fraction(1, 2)))
        self.assertEqual([t for t, _ in strips(plain, (1, (((2,), 3), ((-2,), -1))), 1)], [(0,), (1,)])
        self.assertEqual([t for t, _ in strips(plain, (1, (((2,), 4), ((-2,), -1))), 1)], [(0,), (1,), (2,)])
        self.assertEqual(strips(plain, never(1), 1), [])
        self.assertEqual(strips((rough(5, 6), (pt(1),), pt(0)), rough(0, 1), 1), [])
        self.assertEqual(strips((rough(1, 6), (pt(1),), pt(0)), rough(0, 1), 1), [((1,), stretch(1, 1))])
        self.assertEqual(strips((cube(2), (), ()), cube(2, 0, 3), 1), [((), lean(cube(2, 0, 1)))])
        self.assertEqual(strip_standing((cube(2), (), ()), cube(2, 2, 3), 1, ()), None)
        self.assertEqual(strips(((0, ()), ((),), pt(Fraction(1, 2))), (0, ()), 1), [((0,), (0, ()))])
        self.assertEqual(strips((cube(2), (pt(0, 0),), pt(Fraction(5, 2))), cube(2), 1), [((2,), lean(cube(2)))])

    def test_by_trying(self):
        told = seeded(512)
        for plant, room, _, table, q in trips(told, 50):
            for piece in table:
                due = strips_due(piece, room, q)
                if width_due(piece, room, q) > 400:
                    self.assertRaises(TooGreat, strips, piece, room, q)
                    continue
                found = unchanged(self, strips, piece, room, q)
                self.assertEqual([t for t, _ in found], [t for t, _ in due])
                for t, closed in found:
                    rows = [row_of(pt(*a), fr(b)) for a, b in strip_rows(piece, room, q, t)]
                    self.assertEqual(closed, lean((room[0], tuple(rows))))
                    x = unchanged(self, strip_standing, piece, room, q, t)
                    self.assertTrue(is_in_strip(piece, room, q, t, numbers(x)))
                for x in points_within((room[0], room[1] + piece[0][1]), told, 5):
                    self.assertIn(tuple(nearest(u, q) for u in told_by(piece, x)), [t for t, _ in due])
                for t in itertools.product(range(-3, 4), repeat=len(piece[1])):
                    x = strip_standing(piece, room, q, t)
                    self.assertIs(x is None, t not in [one for one, _ in due])

    def test_rounded_wishes(self):
        table = ((rough(0, 2), (pt(1),), pt(Fraction(1, 4))), ((1, ()), (pt(-1),), pt(0)),
            (rough(2, 3), (pt(0),), pt(Fraction(3, 2))))
        self.assertEqual(unchanged(self, rounded_wishes, table, 1, pt(Fraction(1, 4))), [(0, pt(0)), (1, pt(0))])
        self.assertEqual(rounded_wishes(table, 1, pt(2)), [(0, pt(2)), (1, pt(-2)), (2, pt(1))])
        self.assertEqual(rounded_wishes(table, 2, pt(2)), [(0, pt(2)), (1, pt(-2)), (2, pt(Fraction(3, 2)))])
        self.assertEqual(rounded_wishes(table, 4, pt(-9)), [(1, pt(9))])
        self.assertEqual(rounded_wishes((), 4, pt(-9)), [])
        told = seeded(513)
        for _, room, _, table, q in trips(told, 30):
            for x in points_within(room, told, 2):
                due = [(i, pt(*[Fraction(nearest(u, q), q) for u in told_by(piece, x)]))
                       for i, piece in enumerate(table) if is_within(piece[0], x)]
                self.assertEqual(unchanged(self, rounded_wishes, table, q, from_numbers(x)), due)


class TestFaults(unittest.TestCase):
    def test_example(self):
        room = rough(-1, 1)
        word, i, t, x, w = unchanged(self, first_fault, STAND, room, NEAR, BACK, 1)
        self.assertEqual((word, i, t, w), ("next", 0, (-1,), ()))
        self.assertTrue(Fraction(1, 2) <= number(x[0]) < Fraction(3, 4))
        self.assertIsNone(first_fault(STAND, room, NEAR, BACK, 2))
        self.assertEqual(unchanged(self, least_figures, STAND, room, NEAR, BACK, 5), 2)
        self.assertIsNone(least_figures(STAND, room, NEAR, BACK, 1))
        for x, shown in ((Fraction(1, 2), True), (Fraction(74, 100), True), (Fraction(3, 4), False),
                (Fraction(1, 3), False), (1, False)):
            self.assertIs(shows_fault(STAND, room, NEAR, BACK, 1, ("next", 0, (-1,), pt(x), ())), shown)

    def test_even_figures_alone(self):
        # The next standing is the wish; the one piece tells 1 / 2 at 0.
        plant = ((pt(0),), (pt(1),), ((),), pt(0), rough(0, 1), (0, ()))
        half = (1, (((2,), 1), ((-2,), -1)))
        table = ((rough(0, 0), (pt(0),), pt(Fraction(1, 2))),)
        self.assertEqual([first_fault(plant, rough(0, 0), half, table, q) is None for q in range(1, 9)],
            [False, True] * 4)
        self.assertEqual(least_figures(plant, rough(0, 0), half, table, 60), 2)
        self.assertIsNone(least_figures(plant, rough(0, 0), half, table, 1))
        self.assertIsNone(least_figures(plant, rough(0, 0), rough(2, 2), table, 60))

    def test_each_word(self):
        # A hole ahead of a wish that is none in a piece, which is ahead of where the next piece leads.
        wide = ((rough(-1, 1), (pt(0),), pt(9)), (rough(-1, 1), (pt(0),), pt(0)))
        self.assertEqual(first_fault(STAND, rough(-1, 2), NEAR, wide, 1)[0], "hole")
        self.assertTrue(shows_fault(STAND, rough(-1, 2), NEAR, wide, 1, ("hole", pt(Fraction(3, 2)))))
        self.assertFalse(shows_fault(STAND, rough(-1, 2), NEAR, wide, 1, ("hole", pt(1))))
        self.assertFalse(shows_fault(STAND, rough(-1, 2), NEAR, wide, 1, ("hole", pt(3))))
        self.assertEqual(first_fault(STAND, rough(-1, 1), NEAR, wide, 1)[:3], ("wish", 0, (9,)))
        self.assertTrue(shows_fault(STAND, rough(-1, 1), NEAR, wide, 1, ("wish", 0, (9,), pt(1))))
        self.assertEqual(first_fault(STAND, rough(-1, 1), NEAR, wide[::-1], 1)[:3], ("next", 0, (0,)))
        self.assertEqual(first_fault(STAND, rough(-1, 1), rough(-1, 1), wide[::-1], 1)[:3], ("wish", 1, (9,)))
        # Rounded, 7 / 5 is no wish and 4 / 3 is one.
        for k, due in ((Fraction(3, 2), None), (Fraction(8, 5), ("wish", 0, (2,)))):
            table = (((1, ()), (pt(0),), pt(k)),)
            fault = first_fault(STAND, rough(-1, 0), rough(-1, 1), table, 1)
            self.assertEqual(fault and fault[:3], due)
        # Only standings near the open side of the strip of 0, which is 1 / 2, are led out, and that itself is not.
        half = (1, (((2,), 1), ((-1,), 0)))
        word, i, t, x, w = first_fault(STAND, half, (1, (((100,), 49), ((-1,), 1))), BACK, 1)
        self.assertEqual((word, i, t), ("next", 0, (0,)))
        self.assertTrue(Fraction(49, 100) < number(x[0]) < Fraction(1, 2))
        self.assertIsNone(first_fault(STAND, half, (1, (((2,), 1), ((-1,), 1))), BACK, 1))

    def test_by_trying(self):
        told = seeded(514)
        words = {}
        for plant, room, goal, table, q in trips(told, 130):
            if any(width_due(piece, room, q) > 400 for piece in table):
                continue
            due = due_fault(plant, room, goal, table, q)
            args = (plant, room, goal, table, q)
            fault = unchanged(self, first_fault, *args)
            words[fault and fault[0]] = words.get(fault and fault[0], 0) + 1
            self.assertEqual(fault and fault[:len(due or ())], due, args)
            self.assertIs(unchanged(self, shows_fault, *args, fault), fault is not None)
            self.assertIs(is_shown(*args, fault, due), fault is not None)
            for _ in range(4):
                value = referees.changed(told, fault if fault else ("hole", pt(*[0] * room[0])), ODD)
                self.assertIs(shows_fault(*args, value), is_shown(*args, value, due), (args, value))
            if fault and fault[0] != "hole":
                for x in points_within(room, told, 3):
                    value = fault[:3] + (from_numbers(x),) + fault[4:]
                    self.assertIs(shows_fault(*args, value), is_shown(*args, value, due))
                if fault[0] == "next" and plant[5][0]:
                    for w in points_within(plant[5], told, 2) + [some_standing(told, plant[5][0], 2)]:
                        value = fault[:4] + (from_numbers(w),)
                        self.assertIs(shows_fault(*args, value), is_shown(*args, value, due))
        self.assertTrue(min(words.get(word, 0) for word in (None, "hole", "wish", "next")) > 3, words)

    def test_least(self):
        told = seeded(515)
        found = {}
        for plant, room, goal, table, _ in trips(told, 60):
            most = told.randint(1, 5)
            wide = [any(width_due(piece, room, q) > 400 for piece in table) for q in range(1, most + 1)]
            due = None
            for q in range(1, most + 1):
                if wide[q - 1]:
                    self.assertRaises(TooGreat, least_figures, plant, room, goal, table, most)
                    break
                if due_fault(plant, room, goal, table, q) is None:
                    due = q
                    break
            else:
                q = 0
            if not q or not wide[q - 1]:
                self.assertEqual(unchanged(self, least_figures, plant, room, goal, table, most), due)
                found[due] = True
        self.assertTrue({None, 1, 2} <= set(found), found)

    def test_anything(self):
        for odd in ODD:
            for value in (odd, ("next", odd, (-1,), pt(Fraction(1, 2)), ()), ("next", 0, odd, pt(Fraction(1, 2)), ()),
                    ("next", 0, (-1,), odd, ()),
                          ("next", 0, (-1,), pt(Fraction(1, 2)), odd), ("next", 0, (odd,), pt(Fraction(1, 2)), ()),
                          ("hole", odd), ("wish", 0, (-1,), odd)):
                due = is_shown(STAND, rough(-1, 1), NEAR, BACK, 1, value, ("next", 0, (-1,)))
                self.assertIs(shows_fault(STAND, rough(-1, 1), NEAR, BACK, 1, value), due)
                self.assertIs(shows_fault(STAND, rough(-1, 1), NEAR, BACK, 2, value), False)
        # True is not the number 1.
        self.assertFalse(shows_fault(STAND, rough(-1, 1), NEAR, BACK * 2, 1,
            ("next", False, (-1,), pt(Fraction(1, 2)), ())))


class TestErrors(unittest.TestCase):
    def calls(self, room, q, piece):
        yield strips, (piece, room, q)
        yield strip_standing, (piece, room, q, (0,))
        yield first_fault, (STAND, room, NEAR, (piece,), q)
        yield shows_fault, (STAND, room, NEAR, (piece,), q, None)

    def test_widths(self):
        # From 0 to 399 there are 400 wholes, to 400 one more; rounded, 1 / 2 more is the same.
        plain = ((1, ()), (pt(1),), pt(0))
        for high, error in ((799, None), (800, TooGreat)):
            room = (1, (((2,), high), ((-1,), 0)))
            for call, args in self.calls(room, 1, plain):
                if error:
                    self.assertRaises(error, call, *args)
                else:
                    call(*args)
        self.assertEqual(len(strips(plain, (1, (((2,), 799), ((-1,), 0))), 1)), 400)
        self.assertEqual(len(strips(plain, (1, (((2,), 799), ((-2,), -1))), 1)), 400)
        # A piece that has no point of the room is not wide, and a product of two places is.
        away = (rough(-9, -5), (pt(1),), pt(0))
        self.assertEqual(strips(away, rough(0, 999), 1), [])
        self.assertRaises(TooGreat, first_fault, STAND, rough(0, 999), NEAR, (away, plain), 1)
        two = ((1, ()), (pt(1), pt(1)), pt(0, 0))
        self.assertEqual(len(strips(two, rough(0, 19), 1)), 20)
        self.assertRaises(TooGreat, strips, two, rough(0, 20), 1)
        self.assertRaises(TooGreat, strips, two, rough(0, 10), 2)
        # A flat sum of the two places is as wide as its box, though it has few strips.
        self.assertRaises(TooGreat, strips, ((1, ()), (pt(1), pt(-1)), pt(0, 0)), rough(0, 20), 1)

    def test_least_looks_at_each(self):
        plain = ((1, ()), (pt(0),), pt(0))
        wide = ((1, ()), (pt(1),), pt(0))
        room = rough(0, 150)
        free = STAND[:4] + (rough(-999, 999), (0, ()))
        self.assertEqual(least_figures(free, room, (1, ()), (wide,), 60), 1)
        self.assertRaises(TooGreat, least_figures, free, room, rough(5, 5), (wide,), 60)
        self.assertIsNone(least_figures(free, room, rough(5, 5), (wide,), 2))
        self.assertRaises(TooGreat, least_figures, free, room, rough(5, 5), (wide,), 3)
        # So also where some point is in no piece's room.
        self.assertRaises(TooGreat, least_figures, free, room, (1, ()), ((rough(0, 149),) + wide[1:],), 3)
        self.assertIsNone(least_figures(free, room, (1, ()), ((rough(0, 149),) + wide[1:],), 2))
        self.assertIsNone(least_figures(free, room, rough(5, 5), (plain,), 60))

    def test_unbounded(self):
        plain = ((1, ()), (pt(1),), pt(0))
        for room in ((1, ()), (1, (((1,), 0),))):
            for call, args in self.calls(room, 1, plain):
                self.assertRaises(Unbounded, call, *args)
            self.assertRaises(Unbounded, least_figures, STAND, room, NEAR, (plain,), 1)
            for call, args in self.calls(room, 1, (rough(0, 1),) + plain[1:]):
                self.assertRaises(Unbounded, call, *args)
            self.assertRaises(Unbounded, first_fault, STAND, room, NEAR, (), 1)
        # Unbounded comes ahead of TooGreat; a bare room is bounded.
        many = (2, (((1, 0), 999), ((-1, 0), 0)))
        self.assertRaises(Unbounded, strips, ((2, ()), (pt(1, 0),), pt(0)), many, 1)
        self.assertIsNone(first_fault(STAND, rough(1, 0), NEAR, (plain,), 1))

    def test_just_within_in_time(self):
        told = seeded(516)
        rows = tuple(((told.randint(-10 ** 6, 10 ** 6), told.randint(-10 ** 6, 10 ** 6),
            told.randint(-10 ** 6, 10 ** 6)), 10 ** 6) for _ in range(6))
        room = (3, cube(3)[1] + rows)
        lines = tuple(pt(*[Fraction(told.randint(-10 ** 6, 10 ** 6), 2 * 10 ** 5) for _ in range(3)]) for _ in range(2))
        table = ((cube(3, -2, 2), lines[:1], pt(0)), ((3, rows[:2]), lines[1:], pt(Fraction(1, 3))))
        plant = (tuple(pt(*[Fraction(told.randint(-99, 99), 97) for _ in range(3)]) for _ in range(3)), (pt(0),) * 3,
                 tuple(pt(Fraction(1, 9), Fraction(1, 7)) for _ in range(3)), pt(0, 0, 0), rough(-99, 99), cube(2))
        self.assertGreater(len(strips(table[0], room, 20)), 30)
        self.assertIsNone(least_figures(plant, room, cube(3, 9, 99), table, 20))
        self.assertEqual(least_figures(plant, room, cube(3, -99, 99), table, 60), 1)
        self.assertTrue(STILL)
