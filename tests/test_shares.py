import unittest
from fractions import Fraction

from everygust.corners import centre, corners
from everygust.errors import TooGreat
from everygust.keeping import keep_fault, layers
from everygust.lean import lean
from everygust.shares import inner_kept, judge_shares, kept_shares, room_at, share_at, shares, shares_paper
from everygust.weights import is_bare
from tests import referees
from tests.helpers import (
    ODD, corners_by_trying, cross, cube, fr, is_within, number, numbers, polygon, product_of, pt, seeded, unchanged)
from tests.plants import (
    DRIFT, SLIDE, STILL, from_numbers, gusts_of, is_back, moved, outs, points_within, some_bounded, some_plant)
from tests.test_books import is_parts, paper_sums
from tests.test_keeping import DOUBLE, HALVE, TEN
from tests.test_levels import stretch
from tests.test_lots import rough
from tests.test_steps import never

FORTH = ((pt(Fraction(1, 2)),), (pt(0),), (pt(1),), pt(0), rough(0, 0), rough(-1, 1))
PUSH = DOUBLE[:3] + (pt(5),) + DOUBLE[4:]
TORN = ((pt(2),), (pt(1),), (pt(1),), pt(0), rough(-2, 2), rough(-1, 1))
# From one corner of a cross shares from 2 on are kept, from another one the share 1 alone.
APART = ((pt(Fraction(1, 2), 0), pt(0, 2)), (pt(0), pt(1)), (pt(1), pt(0)), pt(0, 0), rough(-2, 2), rough(-1, 1))


def at_share(about, t, y):
    return [z + t * (x - z) for x, z in zip(y, about)]


def asked_rows(plant, room, about, x):
    """The rows (of a share, of a wish) with their bounds that the least share from a standing must keep."""
    n, m = room[0], plant[4][0]
    rows = []
    for r, s in room[1]:
        gap = s - product_of(r, about)
        by_wish = [product_of(r, [number(line[j]) for line in plant[1]]) for j in range(m)]
        reached = max(product_of(r, moved(plant, x, [0] * m, w)) for w in gusts_of(plant)) - product_of(r, about)
        rows.append(([-gap] + by_wish, -reached))
    rows += [([0] + list(a), b) for a, b in plant[4][1]]
    return (1 + m, rows + [([-1] + [0] * m, 0)])


def share_by_trying(plant, room, about, t):
    """The share of t: the greatest, over all corners, of the least first number of a corner of what is asked."""
    found = []
    for y in corners_by_trying(room):
        told = corners_by_trying(asked_rows(plant, room, about, at_share(about, t, y)))
        if not told:
            return None
        found.append(min(point[0] for point in told))
    return max(found)


def is_kept_at(plant, room, about, t):
    """Whether the room at t is kept, corner by corner."""
    found = share_by_trying(plant, room, about, t)
    return found is not None and found <= t


def is_endless(plant, room, about):
    for r, s in room[1]:
        for y in corners_by_trying(room):
            away = [x - z for x, z in zip(y, about)]
            turned = [product_of([number(k) for k in line], away) for line in plant[0]]
            if product_of(r, turned) > s - product_of(r, about):
                return False
    return True


def stop_faults(plant, room, about, stop, slope):
    y, parts, nu, zero = stop
    found = [("corner",)] * (tuple(numbers(y)) not in corners_by_trying(room))
    found += [("gust", i) for i, part in enumerate(parts) if not is_within(plant[5], numbers(part[2]))]
    turn, told, _ = stop_sums(plant, room, about, stop)
    return found + [("turn",)] * any(turn) + [("slope",)] * (told != slope)


def stop_sums(plant, room, about, stop):
    y, parts, nu, zero = stop
    m, slope, value = plant[4][0], -number(zero), Fraction(0)
    turn = paper_sums(plant, None, room[1], (parts, nu, None))[0]
    away = [x - z for x, z in zip(numbers(y), about)]
    by_standing = [product_of([number(k) for k in line], away) for line in plant[0]]
    for i, t, w in parts:
        r, s = room[1][i]
        slope += number(t) * (product_of(r, by_standing) - (s - product_of(r, about)))
        value += number(t) * (product_of(r, about) - product_of(r, moved(plant, about, [0] * m, numbers(w))))
    return turn, slope, value + referees.sums(plant[4], nu)[1]


def shares_referee(plant, room, centre_told, value):
    about = numbers(centre_told)
    ends, m = corners_by_trying(room), plant[4][0]

    def is_stop(stop):
        good = type(stop) is tuple and len(stop) == 4 and referees.is_list_of(stop[0], room[0])
        good = good and is_parts(plant, len(room[1]), stop[1]) and referees.is_weights(stop[2], len(plant[4][1]))
        return good and referees.is_fraction(stop[3]) and stop[3][0] >= 0

    def is_wishes(told):
        return type(told) is tuple and len(told) == len(ends) and all(referees.is_list_of(u, m) for u in told)
    if referees.told(value, "none", 2) and is_stop(value[1]):
        stops = [(value[1], 0)]
    elif referees.told(value, "apart", 3) and is_stop(value[1]) and is_stop(value[2]):
        stops = [(value[1], -1), (value[2], 1)]
    elif referees.told(value, "shares", 5) and is_stop(value[1]) and is_wishes(value[2]) and (
            value[3] is None and value[4] == () and type(value[4]) is tuple
            or is_stop(value[3]) and is_wishes(value[4])):
        stops = [(value[1], -1)] + ([] if value[3] is None else [(value[3], 1)])
    else:
        return ("form",)
    found = []
    for j, (stop, slope) in enumerate(stops):
        found += [(fault[0], j) + fault[1:] for fault in stop_faults(plant, room, about, stop, slope)]
    told = [stop_sums(plant, room, about, stop)[2] for stop, _ in stops]
    if value[0] == "none":
        return referees.first(found + [("number",)] * (told[0] > -1))
    if value[0] == "apart":
        return referees.first(found + [("number",)] * (told[0] + told[1] >= 0))
    low = -told[0]
    bad = low < 0 or (told[1] < low if len(told) > 1 else not is_endless(plant, room, about))
    found += [("number",)] * bad
    for e, (t, wishes) in enumerate([(low, value[2])] + ([(told[1], value[4])] if len(told) > 1 else [])):
        rows = [(r, product_of(r, about) + t * (s - product_of(r, about))) for r, s in room[1]]
        for j, (y, u) in enumerate(zip(ends, wishes)):
            found += [("wish", e, j)] * (not is_within(plant[4], numbers(u)))
            out = outs(plant, at_share(about, t, y), numbers(u), (room[0], rows))
            found += [("out", e, j, from_numbers(out[0]))] if out else []
    return referees.first(found)


def trips(told, many):
    """Plants with a room that has points, and a point of it."""
    found = [(DOUBLE, TEN, pt(0)), (HALVE, TEN, pt(0)), (PUSH, TEN, pt(0)), (DOUBLE, rough(0, 10), pt(0)),
             (HALVE, rough(-10, 0), pt(0)), (SLIDE, cube(2), pt(0, 0)), (STILL, cube(2), pt(1, 1)),
             (DRIFT, TEN, pt(10)),
             (DRIFT, rough(3, 3), pt(3)), (FORTH, rough(0, 1), pt(0)), (TORN, rough(-1, 1), pt(0)),
             (APART, cross(2), pt(0, 0)), (APART, cross(2), pt(Fraction(1, 2), Fraction(1, 2)))]
    for _ in range(many):
        n = told.choice([1, 1, 2])
        plant = some_plant(told, n, told.randint(0, 1))
        room = some_bounded(told, n)
        found.append((plant, room, from_numbers(told.choice(points_within(room, told, 3)))))
    return found


class TestRoomAt(unittest.TestCase):
    def test_by_hand(self):
        self.assertEqual(unchanged(self, room_at, TEN, pt(0), (1, 5)), stretch(-2, 2))
        self.assertEqual(room_at(TEN, pt(10), (1, 2)), stretch(0, 10))
        self.assertEqual(room_at(TEN, pt(-10), (2, 1)), stretch(-10, 30))
        self.assertEqual(room_at(TEN, pt(3), (0, 1)), stretch(3, 3))
        self.assertEqual(room_at(TEN, pt(3), (1, 1)), stretch(-10, 10))
        self.assertEqual(room_at((0, ()), (), (1, 2)), (0, ()))
        many = polygon(90)
        self.assertEqual(len(room_at(many, pt(0, 0), (1, 3))[1]), 90)

    def test_what_holds(self):
        told = seeded(401)
        for _, room, about in trips(told, 30):
            t = told.choice([0, Fraction(1, 3), 1, Fraction(5, 2)])
            found = unchanged(self, room_at, room, about, fr(t))
            self.assertEqual(found, lean(found))
            due = sorted({tuple(at_share(numbers(about), t, y)) for y in corners_by_trying(room)})
            self.assertEqual([tuple(numbers(x)) for x in corners(found)], due)


class TestShares(unittest.TestCase):
    def test_by_hand(self):
        for t in (0, Fraction(1, 5), 1, 7):
            self.assertEqual(unchanged(self, share_at, HALVE, TEN, pt(0), fr(t)), fr(Fraction(t) / 2 + Fraction(1, 10)))
        self.assertEqual(share_at(DOUBLE, TEN, pt(0), (1, 1)), (19, 10))
        self.assertEqual(share_at(DOUBLE, TEN, pt(0), (1, 20)), (0, 1))
        # From the room of one point the craft is led elsewhere, or by gusts to more than one point.
        self.assertIsNone(share_at(PUSH, rough(0, 0), pt(0), (1, 1)))
        self.assertIsNone(share_at(HALVE, rough(0, 0), pt(0), (3, 1)))
        self.assertEqual(share_at(DOUBLE, rough(0, 0), pt(0), (1, 1)), (0, 1))
        # From a point on the side alone, what leads beyond the side can't be led into any share.
        self.assertIsNone(share_at(FORTH, rough(0, 1), pt(0), (1, 1)))
        self.assertEqual(share_at(FORTH, rough(-10, 10), pt(9), (0, 1)), fr(11, 38))

    def test_one_behind_the_other(self):
        self.assertEqual(unchanged(self, shares, HALVE, TEN, pt(0), 3), [(1, 1), (3, 5), (2, 5), (3, 10)])
        self.assertEqual(shares(HALVE, TEN, pt(0), 0), [(1, 1)])
        self.assertEqual(shares(DOUBLE, TEN, pt(0), 3), [(1, 1), (19, 10)])
        self.assertEqual(shares(DRIFT, TEN, pt(0), 1), [(1, 1), (9, 10)])
        self.assertEqual(shares(DRIFT, TEN, pt(0), 12), [(1, 1)] + [fr(k, 10) for k in range(9, 0, -1)] + [(1, 10)])
        self.assertEqual(shares(FORTH, rough(0, 1), pt(0), 6), [(1, 1)])
        self.assertEqual(shares(STILL, cube(2), pt(0, 0), 6), [(1, 1), (1, 1)])
        # It falls twice, then there is none.
        late = ((pt(Fraction(1, 2)),), (pt(1),), ((),), pt(-1), rough(0, 0), (0, ()))
        self.assertEqual(shares(late, rough(0, 8), pt(0), 6), [(1, 1)])
        self.assertEqual(shares(DOUBLE, rough(-1, 1), pt(0), 6), [(1, 1), (1, 1)])

    def test_by_trying(self):
        told = seeded(402)
        found = {}
        for plant, room, about in trips(told, 50):
            for t in (0, Fraction(1, 2), 1, Fraction(7, 3)):
                due = share_by_trying(plant, room, numbers(about), t)
                self.assertEqual(unchanged(self, share_at, plant, room, about, fr(t)), None if due is None else fr(due))
                found[due is None] = True
            most = told.randint(0, 3)
            told_shares, due = unchanged(self, shares, plant, room, about, most), [(1, 1)]
            while len(due) <= most and (len(due) == 1 or number(due[-1]) < number(due[-2])):
                behind = share_by_trying(plant, room, numbers(about), number(due[-1]))
                if behind is None:
                    break
                due.append(fr(behind))
            self.assertEqual(told_shares, due)
        self.assertEqual(len(found), 2)

    def test_convex(self):
        told = seeded(403)
        for plant, room, about in trips(told, 25):
            one, other = Fraction(told.randint(0, 4), 2), Fraction(told.randint(0, 9), 3)
            ends = [share_at(plant, room, about, fr(t)) for t in (one, other)]
            if None not in ends:
                middle = share_at(plant, room, about, fr((one + other) / 2))
                self.assertLessEqual(number(middle), (number(ends[0]) + number(ends[1])) / 2)


class TestKept(unittest.TestCase):
    def test_by_hand(self):
        self.assertEqual(unchanged(self, kept_shares, HALVE, TEN, pt(0)), ((1, 5), None))
        self.assertEqual(kept_shares(DOUBLE, TEN, pt(0)), ((0, 1), (1, 10)))
        self.assertEqual(kept_shares(DOUBLE, stretch(Fraction(-13, 4), Fraction(13, 4)), pt(0)), ((0, 1), (4, 13)))
        self.assertIsNone(kept_shares(PUSH, TEN, pt(0)))
        self.assertIsNone(kept_shares(HALVE, rough(0, 0), pt(0)))
        self.assertEqual(kept_shares(STILL, cube(2), pt(1, 1)), ((0, 1), None))
        self.assertEqual(kept_shares(DRIFT, rough(-3, 1), pt(1)), ((1, 2), None))
        # One corner's shares end ahead of where the other's begin.
        self.assertEqual(kept_shares(TORN, rough(-1, 1), pt(0)), ((1, 1), (1, 1)))
        self.assertIsNone(kept_shares(TORN[:4] + (rough(-1, 1),) + TORN[5:], rough(-1, 1), pt(0)))
        self.assertIsNone(kept_shares(APART, cross(2), pt(0, 0)))
        nearer = ((pt(0, 0), pt(0, 2)),) + APART[1:]
        self.assertEqual(kept_shares(nearer, cross(2), pt(0, 0)), ((1, 1), (1, 1)))

    def test_by_trying(self):
        told = seeded(404)
        kinds = {}
        for plant, room, about in trips(told, 50):
            found, inner = unchanged(self, kept_shares, plant, room, about), numbers(about)
            if found is None:
                kinds["none"] = True
                for t in (0, Fraction(1, 9), Fraction(1, 2), 1, 2, 7, 99):
                    self.assertFalse(is_kept_at(plant, room, inner, t))
                continue
            low, high = number(found[0]), None if found[1] is None else number(found[1])
            kinds["endless" if high is None else "one" if low == high else "some"] = True
            self.assertGreaterEqual(low, 0)
            self.assertTrue(is_kept_at(plant, room, inner, low))
            self.assertEqual(high is None, is_endless(plant, room, inner))
            if low > 0:
                self.assertFalse(is_kept_at(plant, room, inner, low * Fraction(99, 100)))
            if high is None:
                self.assertTrue(is_kept_at(plant, room, inner, low + 1000))
                self.assertTrue(is_kept_at(plant, room, inner, low + Fraction(1, 7)))
            else:
                self.assertTrue(is_kept_at(plant, room, inner, high))
                self.assertTrue(is_kept_at(plant, room, inner, (low + high) / 2))
                self.assertFalse(is_kept_at(plant, room, inner, high + Fraction(1, 1000)))
        self.assertEqual(sorted(kinds), ["endless", "none", "one", "some"])


class TestPapers(unittest.TestCase):
    def test_all_sorts(self):
        told = seeded(405)
        words, faults = {}, {}
        for plant, room, about in trips(told, 60):
            paper = unchanged(self, shares_paper, plant, room, about)
            words[paper[0]] = True
            kept = kept_shares(plant, room, about)
            self.assertIs(paper[0] == "shares", kept is not None)
            self.assertIsNone(judge_shares(plant, room, about, paper))
            self.assertIsNone(shares_referee(plant, room, about, paper))
            if kept is not None:
                self.assertIs(paper[3] is None, kept[1] is None)
            for _ in range(6):
                value = referees.changed(told, paper, ODD)
                if told.random() < 0.3:
                    value = referees.changed(told, value, ODD)
                fault = judge_shares(plant, room, about, value)
                self.assertEqual(fault, shares_referee(plant, room, about, value), (plant, room, about, value))
                faults[fault and fault[0]] = True
        self.assertEqual(sorted(words), ["apart", "none", "shares"])
        self.assertTrue({"form", "corner", "turn", "slope", "number", "wish", "out"} <= set(faults), faults)

    def judged(self, plant, room, about, value, fault):
        self.assertEqual(judge_shares(plant, room, about, value), fault, value)
        self.assertEqual(shares_referee(plant, room, about, value), fault, value)

    def test_each_fault(self):
        low = (pt(-10), ((1, fr(1, 5), pt(-1)),), pt(Fraction(1, 5), 0), (0, 1))
        zeros = (pt(0), pt(0))
        self.judged(HALVE, TEN, pt(0), ("shares", low, zeros, None, ()), None)
        first, second, third, fourth = low
        for stop, fault in [
                ((pt(-9),) + low[1:], ("corner", 0)), ((first, ((1, fr(1, 5), pt(-2)),), third, fourth),
                ("gust", 0, 0)),
                ((first, second + ((0, fr(1, 5), pt(2)),), third, fourth), ("gust", 0, 1)),
                ((pt(-9), ((1, fr(1, 5), pt(-2)),), third, fourth), ("corner", 0)),
                ((first, ((1, fr(1, 5), pt(-2)),), pt(0, 0), fourth), ("gust", 0, 0)),
                ((first, second, pt(0, 0), fourth), ("turn", 0)), ((first, second, pt(0, 0), (1, 1)), ("turn", 0)),
                ((first, second, third, (1, 1)), ("slope", 0)), ((pt(10),) + low[1:], ("slope", 0)),
                ((first, ((1, fr(1, 5), pt(0)),), third, fourth), ("out", 0, 0, pt(-1))),
                ((first, (), pt(0, 0), (1, 1)), ("out", 0, 0, pt(-1))),
                ((first, (), pt(1, 1), (1, 1)), ("out", 0, 0, pt(-1))),
                ((first, second, third, (-1, 1)), ("form",)), ((first, second, third), ("form",)),
                ((first, second, pt(-1, 0), fourth), ("form",)),
                ((first, ((2, fr(1, 5), pt(-1)),), third, fourth), ("form",)),
                ((first, ((1, fr(0), pt(-1)),), third, fourth), ("form",)),
                ((pt(1, 1),) + low[1:], ("form",)), ((first, ((1, fr(1, 5), ()),), third, fourth), ("form",))]:
            self.judged(HALVE, TEN, pt(0), ("shares", stop, zeros, None, ()), fault)
        for value, fault in [
                (("shares", low, zeros[:1], None, ()), ("form",)), (("shares", low, zeros, None, zeros), ("form",)),
                (("shares", low, zeros, low, ()), ("form",)), (("shares", low, zeros, low, zeros), ("slope", 1)),
                (("shares", low, (pt(1), pt(0)), None, ()), ("wish", 0, 0)),
                (("shares", low, (pt(0), pt(1)), None, ()), ("wish", 0, 1)),
                (("shares", low, (pt(0), (0, 1)), None, ()), ("form",)), (("none", low), ("slope", 0)),
                (("none", low, low), ("form",)),
                (("apart", low, low), ("slope", 1)), (("apart", low), ("form",)), (["none", low], ("form",))]:
            self.judged(HALVE, TEN, pt(0), value, fault)

    def test_numbers(self):
        paper = shares_paper(DOUBLE, TEN, pt(0))
        _, low, lows, high, highs = paper
        self.judged(DOUBLE, TEN, pt(0), ("shares", low, lows, None, ()), ("number",))
        # A stop that tells less than there is: the wishes at this share don't do.
        wide = (pt(-10), ((1, fr(1, 10), pt(0)),), pt(Fraction(1, 5), Fraction(1, 10)), (0, 1))
        self.judged(DOUBLE, TEN, pt(0), ("shares", low, lows, wide, highs), ("out", 1, 0, pt(0)))
        self.judged(DOUBLE, TEN, pt(0), ("shares", low, lows, high, lows), ("out", 1, 0, pt(0)))
        self.judged(DOUBLE, TEN, pt(0), ("shares", low, (pt(5), pt(0)), high, lows), ("wish", 0, 0))
        self.judged(DOUBLE, TEN, pt(0), ("shares", low, (pt(5), pt(1)), high, highs), ("wish", 0, 0))
        # A lesser share below 0, told by a stop that weighs the wishes' rows beside.
        below = (pt(-10), (), pt(1, 1), (1, 1))
        self.judged(DOUBLE, TEN, pt(0), ("shares", below, lows, high, highs), ("number",))
        none = shares_paper(PUSH, rough(0, 0), pt(0))
        self.assertEqual(none[0], "none")
        y, parts, nu, zero = none[1]
        half = (y, tuple((i, fr(number(t) / 2), w) for i, t, w in parts), tuple(fr(number(t) / 2) for t in nu),
            fr(number(zero) / 2))
        twice = (y, tuple((i, fr(number(t) * 2), w) for i, t, w in parts), tuple(fr(number(t) * 2) for t in nu),
            fr(number(zero) * 2))
        self.judged(PUSH, rough(0, 0), pt(0), ("none", half), ("number",))
        self.judged(PUSH, rough(0, 0), pt(0), ("none", twice), None)
        word, one, other = shares_paper(APART, cross(2), pt(0, 0))
        self.judged(APART, cross(2), pt(0, 0), (word, one, other), None)
        self.judged(APART, cross(2), pt(0, 0), (word, other, one), ("slope", 0))
        self.judged(APART, cross(2), pt(0, 0), (word, one, (pt(3, 3),) + other[1:]), ("corner", 1))
        kept = shares_paper(DOUBLE, TEN, pt(0))
        self.judged(DOUBLE, TEN, pt(0), ("apart", kept[1], kept[3]), ("number",))
        self.judged(DOUBLE, TEN, pt(0), ("shares", kept[3], lows, kept[1], highs), ("slope", 0))

    def test_anything(self):
        for odd in ODD:
            for value in (odd, ("shares", odd, (), None, ()), ("none", odd), ("apart", odd, odd),
                    ("none", (pt(10), odd, pt(0, 0), (0, 1))),
                          ("none", (pt(10), (), odd, (0, 1))), ("none", (odd, (), pt(0, 0), (0, 1))),
                          ("none", (pt(10), (), pt(0, 0), odd)), ("none", (pt(10), (odd,), pt(0, 0), (0, 1)))):
                self.judged(HALVE, TEN, pt(0), value, shares_referee(HALVE, TEN, pt(0), value))


class TestInner(unittest.TestCase):
    def test_by_hand(self):
        self.assertEqual(unchanged(self, inner_kept, DOUBLE, TEN, 2), (
            stretch(Fraction(-13, 4), Fraction(13, 4)), stretch(-1, 1)))
        self.assertEqual(inner_kept(DOUBLE, TEN, 0), (stretch(-10, 10), stretch(-1, 1)))
        self.assertEqual(inner_kept(HALVE, TEN, 3), (stretch(-10, 10), stretch(-10, 10)))
        self.assertEqual(inner_kept(HALVE, TEN, 0), (stretch(-10, 10), stretch(-10, 10)))
        self.assertEqual(inner_kept(HALVE, rough(-1, 1), 6), (never(1), never(1)))
        self.assertEqual(inner_kept(HALVE, rough(-1, 1), 0), (stretch(-1, 1), never(1)))
        self.assertEqual(inner_kept(HALVE, rough(-1, 1), 1), (stretch(0, 0), never(1)))
        self.assertEqual(inner_kept(DOUBLE, never(1), 2), (never(1), never(1)))
        self.assertEqual(inner_kept(PUSH, rough(-9, -1), 0), (stretch(-9, -1), stretch(-6, -4)))
        # About the centre, 2, no share of the walls is kept, though 1 alone can be.
        self.assertEqual(inner_kept(((pt(2),), (pt(1),), ((),), pt(-1), rough(0, 0), (0, ())), rough(1, 3), 0), (
            stretch(1, 3), never(1)))

    def test_what_holds(self):
        told = seeded(406)
        words = {}
        for _ in range(50):
            plant = some_plant(told, told.choice([1, 2]))
            n = len(plant[0])
            walls = cube(n, -told.randint(1, 4), told.randint(1, 4)) if told.random() < 0.6 else some_bounded(told, n)
            most = told.randint(0, 3)
            last, inner = unchanged(self, inner_kept, plant, walls, most)
            word, rooms = layers(plant, walls, most)
            self.assertEqual(last, rooms[-1])
            self.assertEqual(inner, lean(inner))
            words[word, is_bare(inner)] = True
            if word != "open":
                self.assertEqual(inner, last)
                continue
            about = centre(last)
            kept = kept_shares(plant, last, about)
            if kept is None or number(kept[0]) > 1:
                self.assertEqual(inner, never(n))
            else:
                t = 1 if kept[1] is None else min(1, number(kept[1]))
                self.assertEqual(inner, room_at(last, about, fr(t)))
                self.assertIsNone(keep_fault(plant, walls, inner))
                self.assertTrue(t == 1 or not is_kept_at(plant, last, numbers(about), t + Fraction(1, 999)))
        self.assertTrue({("bare", True), ("open", True), ("open", False), ("closed", False)} <= set(words), words)

    def test_too_great(self):
        self.assertRaises(TooGreat, inner_kept, STILL, polygon(81), 0)
        self.assertRaises(TooGreat, inner_kept, STILL, polygon(81), 3)
        self.assertEqual(inner_kept(STILL, polygon(80), 1), (lean(polygon(80)),) * 2)

    def test_room_of_many_rows(self):
        many = polygon(80)
        about = centre(many)
        self.assertEqual(kept_shares(STILL, many, about), ((0, 1), None))
        self.assertEqual(share_at(STILL, many, about, (1, 3)), (1, 3))
        self.assertIsNone(judge_shares(STILL, many, about, shares_paper(STILL, many, about)))


class TestGreatNumbers(unittest.TestCase):
    """Where integers are great it is guessed where to begin; what is told must be as exact as elsewhere."""

    def moved_points(self, told, many):
        part = Fraction(1, 10 ** 60 + 7)
        for plant, room, about in trips(told, many):
            ends = corners_by_trying(room)
            other = told.choice(ends)
            yield plant, room, [x + part * (y - x) for x, y in zip(numbers(about), other)]

    def test_shares(self):
        told = seeded(408)
        for plant, room, about in self.moved_points(told, 25):
            for t in (Fraction(1, 2), Fraction(1), Fraction(10 ** 59, 3 * 10 ** 59 + 1)):
                due = share_by_trying(plant, room, about, t)
                self.assertEqual(share_at(plant, room, from_numbers(about), fr(t)), None if due is None else fr(due))

    def test_kept(self):
        told = seeded(409)
        words = {}
        for plant, room, about in self.moved_points(told, 40):
            point = from_numbers(about)
            kept, paper = kept_shares(plant, room, point), shares_paper(plant, room, point)
            words[paper[0]] = True
            self.assertIsNone(judge_shares(plant, room, point, paper))
            self.assertIsNone(shares_referee(plant, room, point, paper))
            self.assertIs(paper[0] == "shares", kept is not None)
            if kept is not None:
                self.assertTrue(is_kept_at(plant, room, about, number(kept[0])))
                self.assertEqual(kept[1] is None, is_endless(plant, room, about))
                if kept[1] is not None:
                    self.assertTrue(is_kept_at(plant, room, about, number(kept[1])))
                    self.assertFalse(is_kept_at(plant, room, about, number(kept[1]) + Fraction(1, 10 ** 99)))
                if kept[0][0]:
                    self.assertFalse(is_kept_at(plant, room, about, number(kept[0]) - Fraction(1, 10 ** 99)))
        self.assertEqual(sorted(words), ["apart", "none", "shares"])

    def test_centre_of_many_corners(self):
        # The centre of many corners has coordinates of many figures; what is told about it is told in time.
        told = seeded(410)
        rows = []
        while len(rows) < 40:
            a = tuple(told.randint(-999, 999) for _ in range(3))
            if any(a):
                rows.append((a, 5 * int(sum(k * k for k in a) ** 0.5)))
        room = lean((3, tuple(rows) + cube(3, -6, 6)[1]))
        plant = (tuple(pt(*[Fraction(told.randint(-99, 99), 97) for _ in range(3)]) for _ in range(3)),
                 tuple(pt(told.randint(-2, 2), 1) for _ in range(3)),
                 tuple(pt(Fraction(1, 9), Fraction(1, 7)) for _ in range(3)), pt(0, 0, 0),
                 cube(2, -3, 3), cube(2))
        last, inner = inner_kept(plant, room, 0)
        self.assertGreater(max(x[1] for x in centre(last)), 10 ** 200)
        self.assertEqual(last, room)
        self.assertIsNone(keep_fault(plant, room, inner))
        paper = shares_paper(plant, last, centre(last))
        self.assertIsNone(judge_shares(plant, last, centre(last), paper))


class TestBackAndForth(unittest.TestCase):
    def test_shares_by_standings(self):
        # The room at t is kept just if each of its corners is in back of it.
        told = seeded(407)
        for plant, room, about in trips(told, 20):
            for t in (Fraction(1, 2), Fraction(1), Fraction(2)):
                at_t = room_at(room, about, fr(t))
                due = all(is_back(plant, x, at_t) for x in corners_by_trying(at_t))
                kept = kept_shares(plant, room, about)
                told_kept = kept is not None and number(kept[0]) <= t and (kept[1] is None or t <= number(kept[1]))
                self.assertEqual(told_kept, due, (plant, room, about, t))
