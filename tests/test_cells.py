import itertools
import unittest
from fractions import Fraction

from everygust.cells import cell_standing, cells, least_seen, seen_fault, shows_seen
from everygust.errors import TooGreat, Unbounded
from everygust.lean import lean
from tests import referees
from tests.helpers import ODD, corners_by_trying, cube, fr, is_within, number, numbers, pt, seeded, unchanged
from tests.plants import from_numbers, gusts_of, moved, points_within, some_standing
from tests.test_figures import BACK, NEAR, STAND, nearest, strip_corners, strips_due, told_by, trips
from tests.test_levels import stretch
from tests.test_lots import rough
from tests.test_steps import never


def itself(n):
    """The piece that tells each standing itself."""
    return ((n, ()), tuple(pt(*[int(j == k) for j in range(n)]) for k in range(n)), pt(*[0] * n))


def width_due(room, q):
    ends, found = corners_by_trying(room), 1
    for k in range(room[0]):
        told = [nearest(x[k], q) for x in ends]
        found *= max(told) - min(told) + 1 if told else 0
    return found if ends else 0


def due_fault(plant, room, goal, table, q):
    for t, ends in strips_due(itself(room[0]), room, q):
        g = [Fraction(m, q) for m in t]
        have = [i for i, piece in enumerate(table) if is_within(piece[0], g)]
        if not have:
            return ("blank", pt(*g))
        for i in have:
            u = told_by(table[i], g)
            if not is_within(plant[4], u):
                return ("wish", pt(*g), i)
            if any(not is_within(goal, moved(plant, x, u, w)) for x in ends for w in gusts_of(plant)):
                return ("next", pt(*g), i)
    return None


def is_shown(plant, room, goal, table, q, value, due):
    sizes = {"blank": 2, "wish": 3, "next": 5}
    if due is None or type(value) is not tuple or len(value) != sizes[due[0]] or type(value[0]) is not str:
        return False
    if value[0] != due[0] or not referees.is_list_of(value[1], room[0]) or value[1] != due[1]:
        return False
    if due[0] == "blank":
        return True
    if type(value[2]) is not int or value[2] != due[2]:
        return False
    if due[0] == "wish":
        return True
    if not referees.is_list_of(value[3], room[0]) or not referees.is_list_of(value[4], plant[5][0]):
        return False
    x, g = numbers(value[3]), numbers(value[1])
    if not is_within(room, x) or [nearest(k, q) for k in x] != [k * q for k in g]:
        return False
    w = numbers(value[4])
    return is_within(plant[5], w) and not is_within(goal, moved(plant, x, told_by(table[due[2]], g), w))


class TestCells(unittest.TestCase):
    def test_by_hand(self):
        found = unchanged(self, cells, rough(-1, 1), 2)
        self.assertEqual([g for g, _ in found], [pt(Fraction(k, 2)) for k in range(-2, 3)])
        self.assertEqual(found[3][1], stretch(Fraction(1, 4), Fraction(3, 4)))
        self.assertIsNone(unchanged(self, cell_standing, rough(-1, 1), 2, pt(Fraction(3, 2))))
        self.assertEqual(cells(never(1), 3), [])
        self.assertEqual(cells((0, ()), 3), [((), (0, ()))])
        # g need not be in the room; a room that only touches a cell by its open side has none there.
        self.assertEqual(cells((1, (((3,), 1), ((-4,), -1))), 1), [(pt(0), stretch(Fraction(1, 4), Fraction(1, 3)))])
        point = (1, (((2,), 1), ((-2,), -1)))
        self.assertEqual(cells(point, 1), [(pt(0), stretch(Fraction(1, 2), Fraction(1, 2)))])
        self.assertIsNone(cell_standing(point, 1, pt(1)))
        self.assertEqual(cell_standing(point, 1, pt(0)), pt(Fraction(1, 2)))
        self.assertEqual([g for g, _ in cells((1, (((2,), -1), ((-2,), 3))), 1)], [pt(-2), pt(-1)])
        self.assertEqual([g for g, _ in cells(cube(2, 0, 1), 1)], [pt(0, 0), pt(0, 1), pt(1, 0), pt(1, 1)])

    def test_by_trying(self):
        told = seeded(521)
        for _, room, _, _, q in trips(told, 50):
            if width_due(room, q) > 400:
                self.assertRaises(TooGreat, cells, room, q)
            if width_due(room, q) > 60:
                continue
            n, piece = room[0], itself(room[0])
            found = unchanged(self, cells, room, q)
            due = strips_due(piece, room, q)
            self.assertEqual([g for g, _ in found], [pt(*[Fraction(m, q) for m in t]) for t, _ in due])
            for (g, closed), (t, ends) in zip(found, due):
                self.assertEqual(closed, lean(closed))
                self.assertEqual(corners_by_trying(closed), strip_corners(piece, room, q, t))
                x = numbers(unchanged(self, cell_standing, room, q, g))
                self.assertTrue(is_within(room, x) and [nearest(k, q) for k in x] == list(t))
            for t in itertools.product(range(-3, 4), repeat=n):
                x = cell_standing(room, q, pt(*[Fraction(m, q) for m in t]))
                self.assertIs(x is None, t not in [one for one, _ in due])


class TestSeen(unittest.TestCase):
    def test_example(self):
        self.assertIsNone(unchanged(self, seen_fault, STAND, rough(-1, 1), NEAR, BACK, 2))
        self.assertEqual(unchanged(self, least_seen, STAND, rough(-1, 1), NEAR, BACK, 5), 2)
        self.assertIsNone(least_seen(STAND, rough(-1, 1), NEAR, BACK, 1))
        word, g, i, x, w = seen_fault(STAND, rough(-1, 1), NEAR, BACK, 1)
        self.assertEqual((word, g, i, w), ("next", pt(-1), 0, ()))
        self.assertTrue(-1 < number(x[0]) <= Fraction(-1, 2) or number(x[0]) == -1)

    def test_each_word(self):
        room = (1, (((3,), 1), ((-4,), -1)))
        # The one point that is seen is 0, which is not in the room.
        for table, due in [(((rough(1, 2), (pt(0),), pt(0)),), ("blank", pt(0))),
                (((rough(0, 0), (pt(0),), pt(9)),), ("wish", pt(0), 0)),
                           (((rough(1, 2), (pt(0),), pt(9)), (rough(0, 0), (pt(0),), pt(-2))), ("wish", pt(0), 1)),
                           (((rough(0, 0), (pt(0),), pt(1)), (rough(0, 0), (pt(0),), pt(9))), ("next", pt(0), 0)),
                           (((rough(0, 0), (pt(0),), pt(0)), (rough(0, 0), (pt(0),), pt(9))), ("next", pt(0), 0)),
                           (((rough(0, 0), (pt(0),), pt(-Fraction(1, 4))), (rough(0, 0), (pt(0),), pt(9))),
                           ("wish", pt(0), 1)),
                           (((rough(0, 0), (pt(0),), pt(-Fraction(1, 4))),), None)]:
            fault = unchanged(self, seen_fault, STAND, room, NEAR, table, 1)
            self.assertEqual(fault and fault[:len(due)], due)
            self.assertIs(shows_seen(STAND, room, NEAR, table, 1, fault), fault is not None)
        self.assertEqual(seen_fault(STAND, rough(0, 2), NEAR, ((rough(1, 2), (pt(-1),), pt(0)),), 1), ("blank", pt(0)))
        self.assertIsNone(seen_fault(STAND, never(1), NEAR, (), 1))
        # What is told at g is not rounded.
        self.assertIsNone(seen_fault(STAND, rough(1, 1), (1, (((3,), 2), ((-3,), -2))),
            ((rough(1, 1), (pt(0),), pt(-Fraction(1, 3))),), 1))

    def test_by_trying(self):
        told = seeded(522)
        words = {}
        for plant, room, goal, table, q in trips(told, 150):
            if told.random() < 0.5:
                table += (((room[0], ()), table[0][1] if table else ((pt(*[0] * room[0]),) * plant[4][0]),
                    pt(*[0] * plant[4][0])),)
            if width_due(room, q) > 60:
                continue
            args = (plant, room, goal, table, q)
            due = due_fault(*args)
            fault = unchanged(self, seen_fault, *args)
            words[fault and fault[0]] = words.get(fault and fault[0], 0) + 1
            self.assertEqual(fault and fault[:len(due or ())], due, args)
            self.assertIs(unchanged(self, shows_seen, *args, fault), fault is not None)
            self.assertIs(is_shown(*args, fault, due), fault is not None)
            for _ in range(4):
                value = referees.changed(told, fault if fault else ("blank", pt(*[0] * room[0])), ODD)
                self.assertIs(shows_seen(*args, value), is_shown(*args, value, due), (args, value))
            if fault and fault[0] == "next":
                for x in points_within(room, told, 4):
                    for w in (points_within(plant[5], told, 1) + [some_standing(told, plant[5][0], 2)])[-3:]:
                        value = fault[:3] + (from_numbers(x), from_numbers(w))
                        self.assertIs(shows_seen(*args, value), is_shown(*args, value, due))
        self.assertTrue(min(words.get(word, 0) for word in (None, "blank", "wish", "next")) > 3, words)

    def test_least(self):
        told = seeded(523)
        found = {}
        for plant, room, goal, table, _ in trips(told, 80):
            most = told.randint(1, 4 if room[0] == 1 else 2)
            due, is_wide = None, False
            for q in range(1, most + 1):
                is_wide = width_due(room, q) > 400
                if is_wide or due_fault(plant, room, goal, table, q) is None:
                    due = q
                    break
            if is_wide:
                self.assertRaises(TooGreat, least_seen, plant, room, goal, table, most)
            else:
                self.assertEqual(unchanged(self, least_seen, plant, room, goal, table, most), due)
                found[due] = True
        self.assertTrue({None, 1, 2} <= set(found), found)

    def test_anything(self):
        half = pt(Fraction(-1, 2))
        due = due_fault(STAND, rough(-1, 1), NEAR, BACK, 1)
        for odd in ODD:
            for value in (odd, ("next", odd, 0, half, ()), ("next", pt(-1), odd, half, ()),
                    ("next", pt(-1), 0, odd, ()), ("next", pt(-1), 0, half, odd),
                          ("blank", odd), ("wish", pt(-1), odd)):
                self.assertIs(shows_seen(STAND, rough(-1, 1), NEAR, BACK, 1, value),
                    is_shown(STAND, rough(-1, 1), NEAR, BACK, 1, value, due))
                self.assertIs(shows_seen(STAND, rough(-1, 1), NEAR, BACK, 2, value), False)
        self.assertTrue(shows_seen(STAND, rough(-1, 1), NEAR, BACK, 1, ("next", pt(-1), 0, half, ())))
        self.assertFalse(shows_seen(STAND, rough(-1, 1), NEAR, BACK, 1, ("next", pt(-1), False, half, ())))


class TestErrors(unittest.TestCase):
    def calls(self, room, q):
        free = STAND[:4] + (rough(-9999, 9999), (0, ()))
        table = ((room[0], ()), (pt(*[0] * room[0]),), pt(0))
        yield cells, (room, q)
        yield cell_standing, (room, q, pt(*[0] * room[0]))
        if room[0] == 1:
            yield seen_fault, (free, room, (1, ()), (table,), q)
            yield shows_seen, (free, room, (1, ()), (table,), q, None)

    def test_widths(self):
        for room, q, error in [(rough(0, 399), 1, None), (rough(0, 400), 1, TooGreat), (rough(0, 199), 2, None),
                (rough(0, 200), 2, TooGreat),
                               (cube(2, 0, 19), 1, None), (cube(2, 0, 20), 1, TooGreat),
                               ((1, (((2,), 799), ((-1,), 0))), 1, None),
                               ((1, (((2,), 799), ((-2,), -1))), 1, None),
                               ((1, (((2,), 801), ((-2,), -1))), 1, TooGreat), (never(1), 60, None)]:
            for call, args in self.calls(room, q):
                if error:
                    self.assertRaises(error, call, *args)
                else:
                    call(*args)
        self.assertEqual(len(cells(cube(2, 0, 19), 1)), 400)
        # The box counts, not the cells that there are.
        self.assertRaises(TooGreat, cells, (2, cube(2, 0, 20)[1] + (((1, -1), 0), ((-1, 1), 0))), 1)
        table = (((1, ()), (pt(0),), pt(0)),)
        self.assertEqual(least_seen(STAND, rough(0, 150), (1, ()), table, 60), 1)
        self.assertIsNone(least_seen(STAND, rough(0, 150), never(1), table, 2))
        self.assertRaises(TooGreat, least_seen, STAND, rough(0, 150), never(1), table, 3)

    def test_unbounded(self):
        table = (((1, ()), (pt(0),), pt(0)),)
        for room in ((1, ()), (1, (((1,), 0),)), (2, (((1, 0), 999), ((-1, 0), 0)))):
            for call, args in self.calls(room, 1):
                self.assertRaises(Unbounded, call, *args)
        self.assertRaises(Unbounded, least_seen, STAND, (1, ()), NEAR, table, 3)

    def test_just_within_in_time(self):
        told = seeded(524)
        rows = tuple(((told.randint(-10 ** 6, 10 ** 6), told.randint(-10 ** 6, 10 ** 6),
            told.randint(-10 ** 6, 10 ** 6)), 3 * 10 ** 6) for _ in range(6))
        room = (3, cube(3, -3, 3)[1] + rows)
        found = cells(room, 1)
        self.assertGreater(len(found), 50)
        table = ((cube(3, -9, 9), (pt(Fraction(1, 3), Fraction(2, 7), 1),), pt(0)),)
        plant = ((pt(0, 0, 0), pt(0, 0, 0), pt(0, 0, 0)), (pt(1),) * 3, ((),) * 3, pt(0, 0, 0), rough(-9, 9), (0, ()))
        self.assertIsNone(seen_fault(plant, room, cube(3, -9, 9), table, 1))
        self.assertEqual(fr(1), (1, 1))
