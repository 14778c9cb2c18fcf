import unittest
from fractions import Fraction

from everygust.corners import corners, dimension
from everygust.cuts import cut
from everygust.errors import TooGreat, Unbounded
from everygust.hulls import hull
from everygust.lean import equations, lean
from everygust.levels import levels
from everygust.lots import lot_at, lots_alike
from everygust.rows import is_in, joined, product
from everygust.tables import TableHelm, alike, judge_table, made_table, piece_of, seam, thinned, told_at
from everygust.trimming import free_columns
from everygust.weights import is_bare
from everygust.wishes import a_wish
from tests.helpers import (
    corners_by_trying, cube, is_within, number, numbers, polygon, product_of, pt, random_room, seeded, simplex,
    slanted, unchanged)
from tests.plants import (
    DRIFT, D_GOAL, D_WALLS, SLIDE, STILL, from_numbers, gusts_of, is_back, moved, points_within, some_bounded,
    some_matrix, some_number, some_plant)
from tests.test_corners import many_corners
from tests.test_levels import stretch
from tests.test_lots import rough
from tests.test_steps import never
from tests.test_weights import WEDGE

SIX = rough(0, 6)
ONE_TO_FIVE = (1, (((1,), 5), ((-1,), -1)))
ONE = (SIX, (pt(Fraction(-2, 3)),), pt(2))
HALF = (SIX, (pt(Fraction(-1, 2)),), pt(2))


def told(piece, x):
    """What a piece tells at a standing of Fractions."""
    return [product_of(numbers(line), x) + number(k) for line, k in zip(piece[1], piece[2])]


def some_table(told_random, n, m, many, kind=None):
    """A table whose pieces may overlap, tell like or unlike wishes, be bare or unbounded."""
    found = []
    for _ in range(many):
        room = some_bounded(told_random, n, False)
        if told_random.random() < 0.15:
            room = random_room(told_random, n, 2, 2, "full")
        if found and told_random.random() < 0.3:
            room = joined(found[-1][0], cube(n, -1, 2))
        matrix, still = some_matrix(told_random, m, n, 1), pt(*[some_number(told_random, 1) for _ in range(m)])
        if found and (kind == "same" or told_random.random() < 0.5):
            matrix, still = found[0][1:]
        found.append((room, matrix, still))
    return tuple(found)


def trips(told_random, many):
    """Plants with a room and a target."""
    found = [(DRIFT, SIX, ONE_TO_FIVE), (DRIFT, rough(0, 8), ONE_TO_FIVE), (SLIDE, cube(2), cube(2, -3, 3)),
             (STILL, cube(2), cube(2)), (STILL, cube(2), simplex(2)), (DRIFT, never(1), ONE_TO_FIVE)]
    for _ in range(many):
        plant = some_plant(told_random, told_random.choice([1, 2, 2, 3]))
        n = len(plant[0])
        room = some_bounded(told_random, n, False)
        target = cube(n, -told_random.randint(1, 7), told_random.randint(1, 7))
        found.append((plant, room, target))
    return found


class TestTold(unittest.TestCase):
    def test_by_hand(self):
        table = (ONE, HALF, (rough(2, 3), (pt(0),), pt(1)))
        self.assertEqual(unchanged(self, told_at, table, pt(3)), [(0, pt(0)), (1, pt(Fraction(1, 2))), (2, pt(1))])
        self.assertEqual(told_at(table, pt(0)), [(0, pt(2)), (1, pt(2))])
        self.assertEqual(told_at(table, pt(7)), [])
        self.assertEqual(told_at((), pt(7)), [])
        self.assertEqual(told_at(((cube(2), (), ()),), pt(0, 0)), [(0, ())])

    def test_helm(self):
        helm = TableHelm(((ONE,), (HALF, ONE)))
        self.assertEqual(helm.tell(1, pt(6)), pt(-2))
        self.assertEqual(helm.tell(2, pt(6)), pt(-1))
        self.assertIsNone(helm.tell(2, pt(7)))
        self.assertEqual(unchanged(self, helm.tell, 2, pt(0)), pt(2))
        self.assertEqual(TableHelm([(ONE,)]).tell(1, pt(6)), pt(-2))

    def test_tables_lead_from_level_to_level(self):
        told_random = seeded(311)
        rooms = levels(DRIFT, D_WALLS, D_GOAL, 3)
        tables = tuple(made_table(DRIFT, rooms[j], rooms[j - 1]) for j in (1, 2, 3))
        helm = TableHelm(tables)
        for x in points_within(rooms[3], told_random, 12):
            for left in (3, 2, 1):
                u = numbers(helm.tell(left, from_numbers(x)))
                self.assertTrue(is_within(DRIFT[4], u))
                w = told_random.choice(points_within(DRIFT[5], told_random, 3))
                x = moved(DRIFT, x, u, w)
                self.assertTrue(is_within(rooms[left - 1], x))


class TestPieces(unittest.TestCase):
    def test_by_hand(self):
        self.assertEqual(unchanged(self, piece_of, [pt(0), pt(6)], [pt(2), pt(-2)]), (lean(SIX),) + ONE[1:])
        self.assertEqual(piece_of([pt(3, 4)], [pt(7)]), (lean(cube(2, 0, 0))[:0] + hull(2, [pt(3, 4)]), (pt(0, 0),), pt(7)))
        self.assertEqual(piece_of([()], [pt(7, 1)]), ((0, ()), ((), ()), pt(7, 1)))
        self.assertEqual(piece_of([pt(1, 1), pt(2, 2)], [(), ()]), (hull(2, [pt(1, 1), pt(2, 2)]), (), ()))
        room, lines, still = piece_of((pt(1, 1), pt(2, 2)), (pt(3), pt(5)))
        self.assertEqual([lines, still], [(pt(0, 2),), pt(1)])

    def test_plain(self):
        told_random = seeded(312)
        for _ in range(60):
            n, m = told_random.randint(0, 3), told_random.randint(0, 2)
            whole = [corner for corner in corners_by_trying(simplex(n))]
            many = told_random.randint(1, n + 1)
            matrix = some_matrix(told_random, n, n, 2)
            shift = [some_number(told_random) for _ in range(n)]
            points = []
            for corner in told_random.sample(whole, many):
                points.append(tuple(product_of(numbers(line), corner) + s for line, s in zip(matrix, shift)))
            room = hull(n, [pt(*point) for point in points])
            if dimension(room) < many - 1:
                continue
            wishes = [[some_number(told_random) for _ in range(m)] for _ in points]
            piece = unchanged(self, piece_of, [pt(*point) for point in points], [pt(*wish) for wish in wishes])
            self.assertEqual(piece[0], room)
            free = free_columns(n, equations(room))
            for line in piece[1]:
                self.assertTrue(all(line[k] == (0, 1) for k in range(n) if k not in free))
            for point, wish in zip(points, wishes):
                self.assertEqual(told(piece, point), wish)


class TestMade(unittest.TestCase):
    def test_all_sorts(self):
        told_random = seeded(313)
        words = {}
        for plant, room, target in trips(told_random, 50):
            table = unchanged(self, made_table, plant, room, target)
            ends = corners_by_trying(room)
            due = all(is_back(plant, end, target) for end in ends)
            self.assertIs(table is not None, due)
            words[due] = True
            if table is None:
                continue
            if not ends:
                self.assertEqual(table, ())
            self.assertIsNone(judge_table(plant, room, target, table))
            for x in points_within(room, told_random, 8):
                pairs = told_at(table, from_numbers(x))
                self.assertTrue(pairs)
                # No two unlike wishes at one standing.
                self.assertEqual(len({wish for _, wish in pairs}), 1)
                u = numbers(pairs[0][1])
                self.assertTrue(is_within(plant[4], u))
                for w in gusts_of(plant):
                    self.assertTrue(is_within(target, moved(plant, x, u, w)))
            self.assertIsNone(seam(table, room))
        self.assertEqual(len(words), 2)

    def test_refused(self):
        for call in (made_table, lambda *args: judge_table(*args, ())):
            self.assertRaises(Unbounded, call, SLIDE, WEDGE, cube(2))
            self.assertRaises(TooGreat, call, STILL, polygon(301), cube(2))
            self.assertRaises(Unbounded, call, STILL, (2, polygon(301)[1][:-1]), cube(2))
        # Corners that have no good wish are no reason to look at fewer simplices.
        still = ((pt(1, 0, 0), pt(0, 1, 0), pt(0, 0, 1)), ((), (), ()), ((), (), ()), pt(0, 0, 0), (0, ()), (0, ()))
        room = product(polygon(40), cube(1, 0, 1))
        self.assertEqual(len(cut(room)), 114)
        self.assertIsNone(made_table(still, room, cube(3, -1, 0)))
        great = product(polygon(103), cube(1, 0, 1))
        self.assertGreater(len(cut(great)), 300)
        for target in (cube(3, -1, 0), great):
            self.assertRaises(TooGreat, made_table, still, great, target)
        less = product(polygon(102), cube(1, 0, 1))
        self.assertEqual(len(cut(less)), 300)
        self.assertEqual(len(made_table(still, less, less)), len(cut(less)))


class TestJudge(unittest.TestCase):
    def test_by_hand(self):
        self.assertIsNone(unchanged(self, judge_table, DRIFT, SIX, ONE_TO_FIVE, (ONE,)))
        self.assertEqual(judge_table(DRIFT, SIX, ONE_TO_FIVE, (HALF,)), ("next", 0, pt(6), pt(1)))
        hole = judge_table(DRIFT, SIX, ONE_TO_FIVE, ((rough(0, 3),) + ONE[1:], (rough(4, 6),) + ONE[1:]))
        self.assertEqual(hole[0], "hole")
        self.assertTrue(3 < number(hole[1][0]) < 4)
        self.assertEqual(judge_table(DRIFT, SIX, ONE_TO_FIVE, ())[0], "hole")
        for table in ((), (HALF,)):
            self.assertIsNone(judge_table(DRIFT, never(1), ONE_TO_FIVE, table))
        far = (SIX, (pt(-1),), pt(2))
        # Wrong wishes come ahead of gusts that lead elsewhere, and holes ahead of both.
        self.assertEqual(judge_table(DRIFT, SIX, ONE_TO_FIVE, (HALF, far))[:2], ("wish", 1))
        self.assertEqual(judge_table(DRIFT, rough(0, 7), ONE_TO_FIVE, (HALF, far))[0], "hole")
        beyond = ((rough(7, 9),) + far[1:], ONE)
        self.assertIsNone(judge_table(DRIFT, SIX, ONE_TO_FIVE, beyond))
        self.assertIsNone(judge_table(STILL, cube(2), cube(2), (((2, ()), (), ()),)))

    def test_all_sorts(self):
        told_random = seeded(314)
        words = {}
        for plant, room, target in trips(told_random, 80):
            n, m = len(plant[0]), plant[4][0]
            table = some_table(told_random, n, m, told_random.randint(1, 3))
            if told_random.random() < 0.6:
                table += ((room,) + table[0][1:],)
            made = made_table(plant, room, target)
            if made and told_random.random() < 0.5:
                table = made + (() if told_random.random() < 0.4 else table[:1])
            fault = unchanged(self, judge_table, plant, room, target, table)
            words[fault and fault[0]] = True
            self.looked_at(told_random, plant, room, target, table, fault)
        self.assertTrue({None, "hole", "wish", "next"} <= set(words), words)

    def looked_at(self, told_random, plant, room, target, table, fault):
        ends = [corners_by_trying((room[0], room[1] + piece[0][1])) for piece in table]
        wishes = [i for i, some in enumerate(ends) if any(not is_within(plant[4], told(table[i], x)) for x in some)]
        nexts = [i for i, some in enumerate(ends) if any(
            not is_within(target, moved(plant, x, told(table[i], x), w)) for x in some for w in gusts_of(plant))]
        for x in points_within(room, told_random, 6):
            if not any(is_within(piece[0], x) for piece in table):
                self.assertEqual(fault[0], "hole")
        if is_bare(room):
            self.assertIsNone(fault)
            return
        if fault is None:
            self.assertEqual((wishes, nexts), ([], []))
            return
        if fault[0] == "hole":
            self.assertTrue(is_within(room, numbers(fault[1])))
            self.assertIsNone(lot_at([piece[0] for piece in table], fault[1]))
            return
        i, x = fault[1], numbers(fault[2])
        self.assertEqual(i, (wishes or nexts)[0])
        self.assertEqual(fault[0], "wish" if wishes else "next")
        self.assertTrue(is_within(room, x) and is_within(table[i][0], x))
        if fault[0] == "wish":
            self.assertFalse(is_within(plant[4], told(table[i], x)))
        else:
            w = numbers(fault[3])
            self.assertIn(tuple(w), gusts_of(plant))
            self.assertFalse(is_within(target, moved(plant, x, told(table[i], x), w)))

    def test_too_great(self):
        strips = tuple((rough(2 * k, 2 * k + 1),) + ONE[1:] for k in range(300))
        self.assertEqual(judge_table(DRIFT, rough(-1, 999), ONE_TO_FIVE, strips[:299])[0], "hole")
        self.assertRaises(TooGreat, judge_table, DRIFT, rough(-1, 999), ONE_TO_FIVE, strips)
        self.assertRaises(TooGreat, judge_table, DRIFT, rough(-1, 999), ONE_TO_FIVE, strips + ((rough(-1, 999),) + ONE[1:],))

    def test_just_within_in_time(self):
        told_random = seeded(315)
        rows = list(cube(3, -9, 9)[1])
        while len(rows) < 20:
            a = tuple(told_random.randint(-10 ** 6, 10 ** 6) for _ in range(3))
            rows.append((a, 9 * sum(abs(k) for k in a) * 2 // 3))
        room = (3, tuple(rows))
        plant = (tuple(pt(*[Fraction(told_random.randint(-400, 400), 999) for _ in range(3)]) for _ in range(3)),
                 tuple(pt(told_random.randint(-2, 2), 1) for _ in range(3)),
                 tuple(pt(Fraction(1, 9), 0) for _ in range(3)), pt(0, 0, 0), cube(2, -3, 3), cube(2))
        target = cube(3, -30, 30)
        table = made_table(plant, room, target)
        self.assertTrue(len(table) <= 300)
        try:
            self.assertIsNone(judge_table(plant, room, target, table))
        except TooGreat:
            pass
        small = cube(3, -2, 2)
        table = made_table(plant, small, target)
        self.assertIsNone(judge_table(plant, small, target, table))


class TestAlike(unittest.TestCase):
    def test_by_hand(self):
        low, high = (rough(0, 3),) + ONE[1:], (rough(3, 6),) + ONE[1:]
        self.assertIsNone(unchanged(self, alike, (low, high), (ONE,), SIX))
        self.assertIsNone(alike((ONE,), (high, low, ONE), rough(-9, 9)))
        point = alike((ONE,), (HALF,), SIX)
        self.assertTrue(0 < number(point[0]) <= 6)
        self.assertIsNone(alike((ONE,), (HALF,), rough(0, 0)))
        self.assertIsNone(alike((), (), SIX))
        self.assertIsNone(alike((), (ONE,), rough(7, 9)))
        self.assertIsNotNone(alike((), (ONE,), rough(6, 9)))
        # Wishes told beside others count: at 3 the one table tells two.
        point = alike((ONE, (rough(3, 3), (pt(0),), pt(1))), (ONE,), SIX)
        self.assertEqual(point, pt(3))
        self.assertIsNone(alike((ONE, (rough(3, 3), (pt(0),), pt(0))), (ONE,), SIX))
        self.assertIsNone(alike((ONE, ONE), (ONE,), SIX))

    def test_all_sorts(self):
        told_random = seeded(316)
        words = {}
        for _ in range(120):
            n, m = told_random.randint(0, 3), told_random.randint(0, 2)
            room = some_bounded(told_random, n, False)
            table = some_table(told_random, n, m, told_random.randint(0, 3))
            kind = told_random.random()
            if kind < 0.4:
                other = table[1:] + table[:1]
            elif kind < 0.7:
                other = thinned(table, room)
            else:
                other = some_table(told_random, n, m, told_random.randint(0, 2)) + table[:1]
            point = unchanged(self, alike, table, other, room)
            words[point is None] = True

            def wishes(one, x):
                return {tuple(told(piece, x)) for piece in one if is_within(piece[0], x)}
            if point is not None:
                self.assertTrue(is_in(room, point))
                self.assertNotEqual(wishes(table, numbers(point)), wishes(other, numbers(point)))
                self.assertIsNotNone(alike(other, table, room))
                continue
            ends = [end for piece in table + other for end in corners_by_trying((n, room[1] + piece[0][1]))]
            for x in ends + points_within(room, told_random, 4):
                self.assertEqual(wishes(table, x), wishes(other, x))
        self.assertEqual(len(words), 2)

    def test_thinned(self):
        low, high = (rough(0, 3),) + ONE[1:], (rough(3, 6),) + ONE[1:]
        self.assertEqual(unchanged(self, thinned, (low, high, ONE), SIX), (ONE,))
        self.assertEqual(thinned((ONE, low, high), SIX), (low, high))
        self.assertEqual(thinned((ONE, HALF), SIX), (ONE, HALF))
        self.assertEqual(thinned((ONE, HALF), rough(0, 0)), (HALF,))
        self.assertEqual(thinned((ONE, ONE), SIX), (ONE,))
        self.assertEqual(thinned((ONE,), rough(7, 8)), ())
        self.assertEqual(thinned((ONE,), never(1)), ())
        told_random = seeded(317)
        for _ in range(50):
            n, m = told_random.randint(0, 3), told_random.randint(0, 2)
            room = some_bounded(told_random, n)
            table = some_table(told_random, n, m, told_random.randint(0, 4), "same")
            found = thinned(table, room)
            self.assertIsNone(alike(found, table, room))
            for k in range(len(found)):
                self.assertIsNotNone(alike(found[:k] + found[k + 1:], found, room))
            left = table
            for piece in table:
                k = left.index(piece) if piece in left else None
                if k is not None and alike(left[:k] + left[k + 1:], left, room) is None:
                    left = left[:k] + left[k + 1:]
            self.assertTrue(lots_alike(tuple(joined(p[0], room) for p in found), tuple(joined(p[0], room) for p in left)))
            self.assertEqual(found, left)


class TestSeam(unittest.TestCase):
    def test_by_hand(self):
        self.assertIsNone(unchanged(self, seam, (ONE, ONE), SIX))
        i, j, x = unchanged(self, seam, (ONE, ONE, HALF), SIX)
        self.assertEqual([i, j], [0, 2])
        self.assertTrue(0 < number(x[0]) <= 6)
        self.assertIsNone(seam((ONE, HALF), rough(0, 0)))
        self.assertIsNone(seam(((rough(0, 3),) + ONE[1:], (rough(4, 6),) + HALF[1:]), SIX))
        self.assertEqual(seam(((rough(0, 4),) + ONE[1:], (rough(4, 6),) + HALF[1:]), SIX), (0, 1, pt(4)))
        self.assertEqual(seam((ONE, (never(1),) + HALF[1:], HALF, ONE), SIX)[:2], (0, 2))
        self.assertIsNone(seam((), SIX))

    def test_all_sorts(self):
        told_random = seeded(318)
        words = {}
        for _ in range(60):
            n, m = told_random.randint(0, 2), told_random.randint(0, 2)
            room = some_bounded(told_random, n, False)
            table = some_table(told_random, n, m, told_random.randint(0, 4))
            found = unchanged(self, seam, table, room)
            due = []
            for i in range(len(table)):
                for j in range(i + 1, len(table)):
                    both = (n, room[1] + table[i][0][1] + table[j][0][1])
                    if any(told(table[i], x) != told(table[j], x) for x in corners_by_trying(both)):
                        due.append((i, j))
            self.assertEqual(found and found[:2], due[0] if due else None)
            words[found is None] = True
            if found:
                i, j, x = found
                self.assertTrue(is_in(room, x) and is_in(table[i][0], x) and is_in(table[j][0], x))
                self.assertNotEqual(told(table[i], numbers(x)), told(table[j], numbers(x)))
        self.assertEqual(len(words), 2)


class TestLimits(unittest.TestCase):
    def test_corners(self):
        self.assertRaises(TooGreat, judge_table, STILL, polygon(301), polygon(301), ())
        self.assertEqual(len(corners(many_corners(8))), 20)
        self.assertIsNone(a_wish(STILL, cube(2), pt(3, 3)))
        self.assertEqual(len(slanted(polygon(5))[1]), 7)
        self.assertEqual(stretch(0, 1), lean(rough(0, 1)))
