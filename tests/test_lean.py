import unittest
from fractions import Fraction

from everygust import lean
from everygust.errors import Bare
from everygust.rows import plain_row
from everygust.weights import are_alike, follows, is_bare
from tests.helpers import cross, cube, pt, random_room, seeded, simplex, unchanged
from tests.test_weights import BARE, TRIANGLE, WEDGE, rooms_of_all_sorts

FLAT = (2, (((1, 0), 1), ((-1, 0), -1), ((2, 4), 14), ((1, 1), 9)))


def less(room, number):
    return (room[0], room[1][:number] + room[1][number + 1:])


def bare_form(n):
    return (n, (((0,) * n, -1),))


def slow_lean(room):
    """The lean form by the words of the document, one question after another."""
    n, rows = room
    if is_bare(room):
        return bare_form(n)
    base = lean.equations(room)
    flat = [row for a, b in base for row in ((a, b), (tuple(-k for k in a), -b))]
    made = sorted({lean.made_0(base, row) for row in rows})
    made = [row for row in made if any(row[0])]
    sides = []
    for row in made:
        others = tuple(flat + [other for other in made if other != row])
        if not follows((n, others), row):
            sides.append(row)
    return (n, tuple(sorted(flat + sides)))


def slow_needed(room):
    n, rows = room
    stay = list(range(len(rows)))
    for k in reversed(range(len(rows))):
        rest = [j for j in stay if j != k]
        if follows((n, tuple(rows[j] for j in rest)), rows[k]):
            stay = rest
    return stay


class TestEquations(unittest.TestCase):
    def test_by_hand(self):
        self.assertEqual(unchanged(self, lean.equations, FLAT), [((1, 0), 1)])
        self.assertEqual(lean.equations(TRIANGLE), [])
        self.assertEqual(lean.equations((0, ())), [])
        self.assertEqual(lean.equations((3, ())), [])
        self.assertEqual(lean.equations((2, (((0, 0), 0),))), [])
        point = (2, (((2, 1), 4), ((-1, 0), -1), ((0, -1), -2)))
        self.assertEqual(lean.equations(point), [((1, 0), 1), ((0, 1), 2)])
        self.assertEqual(lean.equations((2, (((4, 6), 3), ((-4, -6), -3)))), [((4, 6), 3)])
        self.assertEqual(lean.equations((3, (((0, -2, 4), 6), ((0, 1, -2), -3)))), [((0, 1, -2), -3)])
        three = (3, (((1, 1, 1), 0), ((-1, 0, 0), 0), ((0, -1, -1), 0)))
        self.assertEqual(lean.equations(three), [((1, 0, 0), 0), ((0, 1, 1), 0)])
        for room in (BARE, (0, (((), -2),)), (1, (((0,), -1),))):
            with self.assertRaises(Bare):
                lean.equations(room)
            with self.assertRaises(Bare):
                lean.sides(room)

    def test_form_of_the_base(self):
        told = seeded(61)
        flats = 0
        for room in rooms_of_all_sorts(told, 200):
            if is_bare(room):
                continue
            base = lean.equations(room)
            heads = [next(k for k, x in enumerate(a) if x) for a, _ in base]
            flats += bool(base)
            self.assertEqual(heads, sorted(set(heads)))
            for (a, b), head in zip(base, heads):
                self.assertGreater(a[head], 0)
                self.assertEqual(plain_row((a, b)), (a, b))
                self.assertEqual([k for k in heads if a[k]], [head])
                turned = (tuple(-k for k in a), -b)
                self.assertTrue(follows(room, (a, b)) and follows(room, turned))
            for a, b in room[1]:
                turned = (tuple(-k for k in a), -b)
                if any(a) and follows(room, turned):
                    self.assertFalse(any(lean.made_0(base, (a, b))[0]))
        self.assertGreater(flats, 30)

    def test_made_0(self):
        base = lean.equations(FLAT)
        self.assertEqual(unchanged(self, lean.made_0, base, ((2, 4), 14)), ((0, 1), 3))
        self.assertEqual(lean.made_0(base, ((1, 1), 9)), ((0, 1), 8))
        self.assertEqual(lean.made_0(base, ((3, 0), 3)), ((0, 0), 0))
        self.assertEqual(lean.made_0(base, ((3, 0), 7)), ((0, 0), 0))
        self.assertEqual(lean.made_0(base, ((-3, 0), -7)), ((0, 0), -1))
        self.assertEqual(lean.made_0([], ((2, 4), 6)), ((1, 2), 3))
        self.assertEqual(lean.made_0([((2, 3), 1)], ((-5, 4), 3)), ((0, 23), 11))
        self.assertEqual(lean.made_0(tuple(base), ((2, 4), 14)), ((0, 1), 3))


class TestLean(unittest.TestCase):
    def test_by_hand(self):
        self.assertEqual(unchanged(self, lean.lean, FLAT), (2, (((-1, 0), -1), ((0, 1), 3), ((1, 0), 1))))
        self.assertEqual(lean.sides(FLAT), [((0, 1), 3)])
        self.assertEqual(lean.lean(BARE), bare_form(2))
        self.assertEqual(lean.lean((0, (((), -9), ((), 3)))), (0, (((), -1),)))
        self.assertEqual(lean.lean((0, (((), 9), ((), 0)))), (0, ()))
        self.assertEqual(lean.lean((3, (((0, 0, 0), 9),))), (3, ()))
        self.assertEqual(lean.lean(WEDGE), (2, (((-1, 0), 0), ((0, -1), 0))))
        self.assertEqual(lean.lean((1, (((2,), 3), ((4,), 7), ((6,), 9)))), (1, (((2,), 3),)))
        point = (2, (((1, 0), 0), ((-1, 0), 0), ((0, 1), 0), ((0, -1), 0), ((1, 1), 0)))
        self.assertEqual(lean.lean(point), (2, (((-1, 0), 0), ((0, -1), 0), ((0, 1), 0), ((1, 0), 0))))
        self.assertEqual(lean.sides(point), [])
        for room in (cube(4), cross(3), simplex(5)):
            self.assertEqual(lean.lean(room), (room[0], tuple(sorted(room[1]))))
            self.assertEqual(lean.sides(room), sorted(room[1]))
        self.assertIsNot(lean.sides(FLAT), lean.sides(FLAT))

    def test_as_told(self):
        told = seeded(62)
        for room in rooms_of_all_sorts(told, 250):
            self.assertEqual(unchanged(self, lean.lean, room), slow_lean(room))

    def test_alike_exactly_if_equal(self):
        told = seeded(63)
        equal = 0
        for room in rooms_of_all_sorts(told, 200):
            n, rows = room
            more = list(rows) + [rows[k] for k in range(len(rows)) if told.random() < 0.3]
            if len(rows) > 1:
                (a, b), (c, d) = told.choice(rows), told.choice(rows)
                more.append((tuple(2 * x + 3 * y for x, y in zip(a, c)), 2 * b + 3 * d + told.choice([0, 1, -1])))
                more.append((tuple(5 * x for x in a), 5 * b))
            told.shuffle(more)
            other = (n, tuple(more))
            same = are_alike(room, other)
            equal += same
            self.assertIs(lean.lean(room) == lean.lean(other), same)
            self.assertTrue(are_alike(room, lean.lean(room)))
            self.assertEqual(lean.lean(lean.lean(room)), lean.lean(room))
        self.assertGreater(equal, 50)

    def test_is_lean(self):
        told = seeded(64)
        for room in rooms_of_all_sorts(told, 60):
            self.assertIs(lean.is_lean(room), lean.lean(room) == room)
            self.assertIs(lean.is_lean(lean.lean(room)), True)
        self.assertIs(lean.is_lean(TRIANGLE), True)
        self.assertIs(lean.is_lean((2, tuple(reversed(TRIANGLE[1])))), False)
        self.assertIs(lean.is_lean((2, (((0, 0), -2),))), False)
        self.assertIs(lean.is_lean(bare_form(3)), True)

    def test_sixty_rows(self):
        told = seeded(65)
        for kind in ("full", "point", "flat"):
            room = random_room(told, 6, 59, 10 ** 60, kind)
            found = lean.lean(room)
            self.assertEqual(lean.lean((6, tuple(reversed(room[1])))), found)
            self.assertTrue(lean.is_lean(found))


class TestNeeded(unittest.TestCase):
    def test_by_hand(self):
        room = (1, (((1,), 3), ((1,), 2), ((2,), 4), ((0,), 0), ((-1,), 0), ((1,), 2)))
        self.assertEqual(unchanged(self, lean.needed, room), [1, 4])
        self.assertEqual(lean.thinned(room), (1, (((1,), 2), ((-1,), 0))))
        self.assertEqual(lean.needed((2, ())), [])
        self.assertEqual(lean.needed((0, (((), 0), ((), -1), ((), -2)))), [1])
        self.assertEqual(lean.needed((0, (((), 0), ((), 1)))), [])
        self.assertEqual(lean.thinned((0, (((), -4), ((), -1)))), (0, (((), -4),)))
        self.assertEqual(lean.thinned((1, (((4,), 6),))), (1, (((4,), 6),)))
        self.assertEqual(lean.needed(BARE), [1, 2, 3])

    def test_as_told(self):
        told = seeded(66)
        for room in rooms_of_all_sorts(told, 250):
            if len(room[1]) > 14:
                continue
            stay = unchanged(self, lean.needed, room)
            self.assertEqual(stay, slow_needed(room))
            thinned = lean.thinned(room)
            self.assertEqual(thinned, (room[0], tuple(room[1][k] for k in stay)))
            self.assertTrue(are_alike(room, thinned))
            for k, row in enumerate(thinned[1]):
                self.assertFalse(follows(less(thinned, k), row))

    def test_flat_and_doubled(self):
        told = seeded(67)
        for _ in range(60):
            n = told.randint(1, 3)
            room = random_room(told, n, 4, 2, "point")
            room = (n, room[1] * 2 + tuple((tuple(-k for k in a), -b) for a, b in room[1]))
            self.assertEqual(lean.needed(room), slow_needed(room))
            self.assertEqual(lean.lean(room), slow_lean(room))

    def test_sixty_rows(self):
        told = seeded(68)
        room = random_room(told, 6, 60, 10 ** 60, "full")
        self.assertTrue(are_alike(lean.thinned(room), room))
        self.assertEqual(pt(Fraction(1, 2)), ((1, 2),))
