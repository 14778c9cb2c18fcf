import itertools
import unittest
from fractions import Fraction

from everygust.errors import BadShape, TooGreat
from everygust.rows import is_in, plain_row
from everygust.tables import told_at
from everygust.trees import (
    answer_of, check_tree, depth, fewest_tests, fewest_tree, grown_tree, judge_tree, parting_rows)
from tests.helpers import (
    ODD, corners_by_trying, cube, is_within, number, numbers, polygon, product_of, pt, random_room, seeded, solved, unchanged)
from tests.plants import points_within, some_bounded
from tests.test_lots import QUARTERS, rough
from tests.test_steps import never
from tests.test_tables import some_table
from tests.test_weights import BARE


def plain_table(*rooms):
    return tuple((room, (), ()) for room in rooms)


TWO = plain_table(rough(0, 3), rough(2, 6))
SIX = rough(0, 6)


def path_of(test, n, many, value):
    try:
        test.assertIsNone(check_tree(n, many, value))
    except BadShape as caught:
        return caught.path
    return None


def due_path(n, many, value):
    """The first wrong part of a tree, told once more."""
    if value is None or type(value) is int and 0 <= value < many:
        return None
    if type(value) is not tuple or len(value) != 3:
        return ()
    row = value[0]
    if type(row) is not tuple or len(row) != 2:
        return (0,)
    if type(row[0]) is not tuple or len(row[0]) != n:
        return (0, 0)
    for k, one in enumerate(row[0]):
        if type(one) is not int:
            return (0, 0, k)
    if type(row[1]) is not int:
        return (0, 1)
    for k in (1, 2):
        path = due_path(n, many, value[k])
        if path is not None:
            return (k,) + path
    return None


def answer(tree, x):
    while isinstance(tree, tuple):
        (a, b), yes, no = tree
        tree = yes if product_of(a, x) <= b else no
    return tree


def is_right_at(table, tree, x):
    found = answer(tree, x)
    having = [i for i, piece in enumerate(table) if is_within(piece[0], x)]
    return found in having if having else found is None


def tests_in(tree):
    return 1 + tests_in(tree[1]) + tests_in(tree[2]) if isinstance(tree, tuple) else 0


def all_points(told, table, room):
    """Points of a room: its corners, where its rows and those of the table meet, and points between these."""
    n = room[0]
    rows = room[1] + tuple(row for piece in table for row in piece[0][1])
    found = set(corners_by_trying(room))
    if n in (1, 2):
        for some in itertools.combinations(rows, n):
            point = solved([a for a, _ in some], [b for _, b in some])
            if point is not None and is_within(room, point):
                found.add(point)
    found = sorted(found)
    for _ in range(25 if found else 0):
        one, other = told.choice(found), told.choice(found)
        found.append(tuple((x + y) / 2 for x, y in zip(one, other)))
    return found


def tables(told, many):
    found = [(TWO, SIX), (TWO, rough(-1, 7)), (TWO, never(1)), ((), SIX), (plain_table(*QUARTERS), cube(2, -2, 2)),
             (plain_table(*QUARTERS[:2]), cube(2, -3, 3)), (plain_table(BARE), cube(2)),
             (plain_table((2, ())), cube(2)), (plain_table(rough(2, 2)), SIX), (plain_table((0, ())), (0, ()))]
    for _ in range(many):
        n = told.randint(0, 3)
        found.append((some_table(told, n, 0, told.randint(0, 2 if n == 3 else 3)), some_bounded(told, n, False)))
    return found


class TestForm(unittest.TestCase):
    def test_paths(self):
        tree = (((1,), 2), 0, (((1,), 3), None, 1))
        self.assertIsNone(path_of(self, 1, 2, tree))
        for value, path in [
                (None, None), (0, None), (1, None), (2, ()), (-1, ()), (True, ()), ("", ()), ((), ()), (tree[:2], ()),
                (list(tree), ()), ((((1, 1), 2), 0, 1), (0, 0)), ((((1,), 2, 3), 0, 1), (0,)), ((((1,),), 0, 1), (0,)),
                ((((1,), None), 0, 1), (0, 1)), ((((True,), 2), 0, 1), (0, 0, 0)), ((tree[0], 2, 3), (1,)),
                ((tree[0], 0, 3), (2,)), ((tree[0], tree, (tree[0], 0, 7)), (2, 2)), (([(1,), 2], 0, 1), (0,)),
                ((tree[0], (tree[0], (0, 0, 0), 9), 9), (1, 1, 0)), (((1, 2), 0, 1), (0, 0))]:
            self.assertEqual(path_of(self, 1, 2, value), path, value)
            self.assertEqual(due_path(1, 2, value), path, value)
        self.assertIsNone(path_of(self, 0, 1, (((), 4), 0, None)))
        for odd in ODD:
            for value in (odd, (odd, 0, 1), (tree[0], odd, 1), (tree[0], 0, odd), ((odd, 2), 0, 1), ((odd, odd), 0, 1)):
                self.assertEqual(path_of(self, 1, 2, value), due_path(1, 2, value), value)

    def test_answers(self):
        tree = (((1,), 2), 0, (((1,), 3), None, 1))
        self.assertEqual([answer_of(tree, pt(k)) for k in (2, 3, 4)], [0, None, 1])
        self.assertEqual(answer_of(tree, pt(Fraction(7, 3))), None)
        self.assertEqual([answer_of(5, pt(1)), answer_of(None, pt(1))], [5, None])
        self.assertEqual([depth(tree), depth(0), depth(None), depth((((1,), 0), tree, tree))], [2, 0, 0, 3])


class TestRight(unittest.TestCase):
    def test_by_hand(self):
        self.assertIsNone(unchanged(self, judge_tree, TWO, SIX, (((1,), 2), 0, 1)))
        self.assertIsNone(judge_tree(TWO, SIX, (((1,), 3), 0, 1)))
        for tree in ((((1,), 1), 0, 1), (((1,), 4), 0, 1), (((1,), 2), 0, None), (((1,), 2), None, 1), 0, 1, None):
            point = judge_tree(TWO, SIX, tree)
            self.assertTrue(is_in(SIX, point))
            self.assertFalse(is_right_at(TWO, tree, numbers(point)), tree)
        self.assertIsNone(judge_tree(TWO, never(1), 1))
        self.assertIsNone(judge_tree((), SIX, None))
        self.assertIsNone(judge_tree(TWO, rough(7, 9), None))
        # Right at all points but the end of a room.
        point = judge_tree(plain_table(rough(0, 3)), SIX, (((-1,), -3), None, 0))
        self.assertEqual(point, pt(3))
        self.assertIsNone(judge_tree(plain_table(rough(0, 3)), SIX, (((1,), 3), 0, None)))
        self.assertIsNone(judge_tree(plain_table(rough(3, 3)), SIX, (((1,), 3), (((-1,), -3), 0, None), None)))

    def test_grown(self):
        told = seeded(331)
        for table, room in tables(told, 80):
            tree = unchanged(self, grown_tree, table, room)
            self.assertIsNone(path_of(self, room[0], len(table), tree))
            self.assertIsNone(judge_tree(table, room, tree))
            self.assertTrue(tests_in(tree) <= 4000)
            for x in all_points(told, table, room):
                self.assertTrue(is_right_at(table, tree, x), (table, room, x))

    def test_judged(self):
        told = seeded(332)
        words = {}
        for table, room in tables(told, 60):
            tree = grown_tree(table, room)
            for _ in range(5):
                value = self.changed(told, tree, room[0], len(table))
                point = unchanged(self, judge_tree, table, room, value)
                words[point is None] = True
                if point is None:
                    for x in all_points(told, table, room)[:40]:
                        self.assertTrue(is_right_at(table, value, x))
                else:
                    self.assertTrue(is_in(room, point))
                    self.assertFalse(is_right_at(table, value, numbers(point)))
        self.assertEqual(len(words), 2)

    def changed(self, told, tree, n, many):
        if not isinstance(tree, tuple) or told.random() < 0.15:
            kind = told.random()
            if kind < 0.3:
                return (random_room(told, n, 1, 2, "any")[1][0], tree, tree)
            return told.choice([None] + list(range(many)))
        (a, b), yes, no = tree
        kind = told.random()
        if kind < 0.2:
            return ((a, b + told.choice([-1, 1])), yes, no)
        if kind < 0.3:
            return ((a, b), no, yes)
        if kind < 0.65:
            return (tree[0], self.changed(told, yes, n, many), no)
        return (tree[0], yes, self.changed(told, no, n, many))


def fewest_by_cells(table, room, points):
    """The least depth by points that stand for all cells."""
    rows = sorted({plain_row(row) for piece in table for row in piece[0][1]})
    cells = {}
    for x in points:
        kept = tuple(product_of(a, x) <= b for a, b in rows)
        cells[kept] = frozenset(i for i, piece in enumerate(table) if is_within(piece[0], x))

    def need(group):
        having = [cells[one] for one in group]
        if not having or frozenset.intersection(*having) or not any(having):
            return 0
        best = None
        for k in range(len(rows)):
            yes = frozenset(one for one in group if one[k])
            if yes and yes != group:
                tests = 1 + max(need(yes), need(group - yes))
                best = tests if best is None else min(best, tests)
        return best
    return need(frozenset(cells)), [
        row for k, row in enumerate(rows) if len({one[k] for one in cells}) == 2]


class TestFewest(unittest.TestCase):
    def test_by_hand(self):
        self.assertEqual(unchanged(self, parting_rows, TWO, SIX), [((-1,), -2), ((1,), 3)])
        self.assertEqual(unchanged(self, fewest_tests, TWO, SIX), 1)
        self.assertIsNone(judge_tree(TWO, SIX, unchanged(self, fewest_tree, TWO, SIX)))
        self.assertEqual(parting_rows(TWO, rough(-1, 7)), [((-1,), -2), ((-1,), 0), ((1,), 3), ((1,), 6)])
        self.assertEqual(fewest_tests(TWO, rough(-1, 7)), 2)
        self.assertEqual(parting_rows(TWO, rough(0, 2)), [((-1,), -2)])
        self.assertEqual(parting_rows(TWO, rough(2, 3)), [])
        self.assertEqual([fewest_tests(TWO, rough(2, 3)), fewest_tests(TWO, rough(0, 2))], [0, 0])
        self.assertEqual(fewest_tests(plain_table(rough(2, 2)), SIX), 2)
        self.assertEqual([fewest_tests((), SIX), fewest_tree((), SIX)], [0, None])
        self.assertEqual([parting_rows(TWO, never(1)), fewest_tests(TWO, never(1))], [[], 0])
        self.assertEqual(parting_rows(plain_table((1, (((2,), 4), ((3,), 6), ((2,), 5), ((0,), 0)))), SIX), [
            ((1,), 2), ((2,), 5)])
        self.assertEqual(parting_rows(plain_table(rough(6, 9)), SIX), [((-1,), -6)])
        self.assertEqual(fewest_tests(plain_table(*QUARTERS), cube(2, -2, 2)), 2)

    def test_by_cells(self):
        told = seeded(333)
        seen = {}
        for _ in range(150):
            ends = [(told.randint(0, 8), told.randint(0, 5)) for _ in range(told.randint(1, 4))]
            table = plain_table(*[rough(a, a + b) for a, b in ends])
            room = rough(told.randint(0, 3), told.randint(4, 9))
            points = [(Fraction(k, 2),) for k in range(0, 20) if is_within(room, (Fraction(k, 2),))]
            due, rows = fewest_by_cells(table, room, points)
            self.assertEqual(parting_rows(table, room), rows)
            if len(rows) > 8:
                continue
            self.assertEqual(fewest_tests(table, room), due, (table, room))
            tree = fewest_tree(table, room)
            seen[due] = True
            self.looked_at(table, room, tree, due, rows)
        self.assertTrue(len(seen) > 3, seen)

    def looked_at(self, table, room, tree, due, rows):
        self.assertEqual(depth(tree), due)
        self.assertIsNone(judge_tree(table, room, tree))
        left = [tree]
        while left:
            one = left.pop()
            if isinstance(one, tuple):
                self.assertIn(one[0], rows)
                left += one[1:]

    def test_of_two(self):
        told = seeded(334)
        for _ in range(40):
            n = told.randint(1, 2)
            rooms = []
            for _ in range(told.randint(1, 3)):
                low = [told.randint(-2, 1) for _ in range(n)]
                rooms.append((n, tuple(
                    row for k in range(n) for row in (
                        (tuple(int(j == k) for j in range(n)), low[k] + told.randint(0, 2)),
                        (tuple(-int(j == k) for j in range(n)), -low[k])))))
            table, room = plain_table(*rooms), cube(n, -1, 2)
            points = list(itertools.product([Fraction(k, 2) for k in range(-2, 5)], repeat=n))
            due, rows = fewest_by_cells(table, room, points)
            self.assertEqual(parting_rows(table, room), rows)
            if len(rows) <= 8:
                self.assertEqual(fewest_tests(table, room), due)
                self.looked_at(table, room, fewest_tree(table, room), due, rows)

    def test_too_great(self):
        eight = plain_table(*[rough(2 * k, 2 * k + 1) for k in range(4)])
        self.assertEqual(len(parting_rows(eight, rough(-1, 9))), 8)
        self.assertEqual(fewest_tests(eight, rough(-1, 9)), 4)
        nine = eight + plain_table((1, (((2,), 17),)))
        self.assertEqual(len(parting_rows(nine, rough(-1, 9))), 9)
        for call in (fewest_tests, fewest_tree):
            self.assertRaises(TooGreat, call, nine, rough(-1, 9))
            call(nine, rough(-1, 8))
        self.assertIsNone(judge_tree(nine, rough(-1, 9), grown_tree(nine, rough(-1, 9))))

    def test_just_within_in_time(self):
        told = seeded(335)
        rooms = []
        for _ in range(6):
            x, y = told.randint(-5, 5), told.randint(-5, 5)
            rows = []
            while len(rows) < 4:
                a = (told.randint(-10 ** 6, 10 ** 6), told.randint(-10 ** 6, 10 ** 6))
                rows.append((a, a[0] * x + a[1] * y + 3 * sum(abs(k) for k in a)))
            rooms.append((2, tuple(rows)))
        table, room = plain_table(*rooms), polygon(20)
        tree = grown_tree(table, (2, cube(2, -20, 20)[1]))
        self.assertIsNone(judge_tree(table, cube(2, -20, 20), tree))
        self.assertTrue(tests_in(tree) <= 4000)
        self.assertIsNone(judge_tree(table, room, grown_tree(table, room)))
        three = []
        for _ in range(4):
            rows = [(tuple(told.randint(-999, 999) for _ in range(3)), told.randint(0, 2000)) for _ in range(4)]
            three.append((3, tuple(rows)))
        table, room = plain_table(*three), cube(3, -9, 9)
        tree = grown_tree(table, room)
        self.assertIsNone(judge_tree(table, room, tree))
        half = table[:2]
        self.assertEqual(depth(fewest_tree(half, room)), fewest_tests(half, room))
        self.assertIsNone(judge_tree(half, room, fewest_tree(half, room)))


class TestWithTables(unittest.TestCase):
    def test_answers_tell_pieces(self):
        told = seeded(336)
        table = some_table(told, 2, 1, 3)
        room = cube(2, -3, 3)
        tree = grown_tree(table, room)
        for x in points_within(room, told, 20):
            point = pt(*x)
            found = answer_of(tree, point)
            told_here = [i for i, _ in told_at(table, point)]
            self.assertTrue(found in told_here if told_here else found is None)
            self.assertEqual(number((1, 2)), Fraction(1, 2))
