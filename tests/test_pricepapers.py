import unittest
from fractions import Fraction

from everygust.errors import TooGreat
from everygust.foes import foe_paper
from everygust.helms import helm_paper, judge_helm
from everygust.levels import levels
from everygust.prices import price_levels
from everygust.pricepapers import judge_price, paper_price, price_paper
from tests import referees
from tests.helpers import ODD, cube, fr, is_within, number, numbers, polygon, product_of, pt, seeded, unchanged
from tests.plants import DRIFT, STILL, from_numbers, gusts_of, moved, near, points_within
from tests.test_books import is_parts, is_row
from tests.test_helms import helm_referee
from tests.test_prices import EFFORT, ONE, SIX, end_due, price_at, step_due, trips, worth_of

FIRST = (((1,), 1, 1), ((0, (1, 1), pt(1)),), pt(0, 1), pt(0, 0), pt(0, 0))
EXAMPLE = ((FIRST,), ((((1,), 0, 1),),))


def price_due(plant, cost, left, x, paper):
    """The price of a helm paper, by Fractions."""
    if left == 0:
        return end_due(cost, x)
    u = numbers(paper[0])
    behind = [price_due(plant, cost, left - 1, moved(plant, x, u, w), one) for w, one in zip(gusts_of(plant), paper[1])]
    return step_due(cost, x, u) + max(behind)


def is_form(n, value):
    if type(value) is not tuple or len(value) != 3:
        return False
    return is_row(n, value[:2]) and type(value[2]) is int and value[2] >= 1


def is_dear(plant, walls, cost, left, value):
    n = walls[0]
    if type(value) is not tuple or len(value) != left + 1 or any(type(tier) is not tuple for tier in value):
        return False
    good = len(value[0]) > 0
    for number_told, tier in enumerate(value):
        for entry in tier:
            if type(entry) is not tuple or not entry:
                return False
            if number_told == left:
                good = good and len(entry) == 1 and (is_row(n, entry[0]) or is_form(n, entry[0]))
                continue
            if len(entry) not in (4, 5):
                return False
            good = good and (is_row(n, entry[0]) if len(entry) == 4 else is_form(n, entry[0]))
            good = good and is_parts(plant, len(value[number_told + 1]), entry[1])
            good = good and referees.is_weights(entry[-1], len(walls[1]))
            good = good and referees.is_weights(entry[-2], len(plant[4][1]))
            good = good and (len(entry) == 4 or referees.is_weights(entry[2], len(cost[0])))
    return good


def entry_faults(plant, walls, cost, below, entry):
    """All faults of an entry: by what all that it weighs tells at standings and wishes, member by member."""
    n, m = walls[0], plant[4][0]
    found = [("gust", q) for q, part in enumerate(entry[1]) if not is_within(plant[5], numbers(part[2]))]
    told = entry[0]
    mu = entry[2] if len(entry) == 5 else ()
    ones = sum(number(t) for i, t, _ in entry[1] if len(below[i]) == 3)
    if len(entry) == 4:
        found += [("kind", q) for q, part in enumerate(entry[1]) if len(below[part[0]]) == 3]
    elif sum(number(t) for t in mu) != 1 or ones != 1:
        found += [("ones",)]

    def every(x, u):
        """What all adds up to at a standing and a wish."""
        value = Fraction(0)
        for (p, q, r), t in zip(cost[0], mu):
            value += number(t) * (product_of(p, x) + product_of(q, u) + r)
        for i, t, w in entry[1]:
            there = moved(plant, x, u, numbers(w))
            if len(below[i]) == 3:
                value += number(t) * worth_of(below[i], there)
            else:
                value += number(t) * (product_of(below[i][0], there) - below[i][1])
        for room, point, weights in ((plant[4], u, entry[-2]), (walls, x, entry[-1])):
            for (a, b), t in zip(room[1], weights):
                value += number(t) * (product_of(a, point) - b)
        return value
    alone = every([0] * n, [0] * m)
    turn = [every([0] * n, [int(k == j) for k in range(m)]) - alone for j in range(m)]
    form = [every([int(k == j) for k in range(n)], [0] * m) - alone for j in range(n)]
    d = told[2] if len(told) == 3 else 1
    due = Fraction(told[1], d) if len(told) == 3 else -told[1]
    found += [("turn",)] * any(turn) + [("row",)] * (form != [Fraction(k, d) for k in told[0]])
    return found + [("sum",)] * (alone < due)


def price_referee(plant, walls, goal, cost, left, x, t, value):
    if referees.told(value, "pays", 2):
        fault = helm_referee(plant, walls, goal, left, x, value[1])
        if fault is not None:
            return ("helm",) + fault
        price = price_due(plant, cost, left, numbers(x), value[1])
        return ("more", fr(price)) if price > number(t) else None
    if not referees.told(value, "dear", 2) or not is_dear(plant, walls, cost, left, value[1]):
        return ("form",)
    tiers = value[1]
    first, point = tiers[0][0][0], numbers(x)
    is_above = worth_of(first, point) > number(t) if len(first) == 3 else product_of(first[0], point) > first[1]
    found = [] if is_above else [("there",)]
    for tier in range(left):
        below = [entry[0] for entry in tiers[tier + 1]]
        for k, entry in enumerate(tiers[tier]):
            for fault in entry_faults(plant, walls, cost, below, entry):
                found.append((fault[0], tier, k) + fault[1:])
    ends = [(p, r, 1) for p, r in cost[1]]
    found += [("last", k) for k, (told,) in enumerate(tiers[left]) if told not in walls[1] + goal[1] + tuple(ends)]
    return referees.first(found)


class TestPaperPrice(unittest.TestCase):
    def test_by_hand(self):
        self.assertEqual(unchanged(self, paper_price, DRIFT, EFFORT, 1, pt(2), (pt(-2), ((), ()))), (3, 1))
        self.assertEqual(paper_price(DRIFT, EFFORT, 0, pt(Fraction(-1, 2)), ()), (1, 2))
        self.assertEqual(paper_price(STILL, ((((1, 1), (), 0),), (((0, 0), -5),)), 2, pt(1, 2), ((), (((), ((),)),))),
            (1, 1))

    def test_by_trying(self):
        told = seeded(431)
        for plant, walls, goal, cost in trips(told, 25):
            left = told.randint(0, 2)
            for x in points_within(levels(plant, walls, goal, left)[left], told, 2)[:3]:
                paper = helm_paper(plant, walls, goal, left, from_numbers(x))
                self.assertEqual(unchanged(self, paper_price, plant, cost, left, from_numbers(x), paper),
                                 fr(price_due(plant, cost, left, x, paper)))


class TestPapers(unittest.TestCase):
    def test_example(self):
        self.assertEqual(unchanged(self, price_paper, DRIFT, SIX, ONE, EFFORT, 1, pt(2), (3, 1)),
            ("pays", (pt(-2), ((), ()))))
        self.assertEqual(unchanged(self, price_paper, DRIFT, SIX, ONE, EFFORT, 1, pt(2), (5, 2)), ("dear", EXAMPLE))
        self.assertIsNone(unchanged(self, judge_price, DRIFT, SIX, ONE, EFFORT, 1, pt(2), (5, 2), ("dear", EXAMPLE)))
        self.assertEqual(judge_price(DRIFT, SIX, ONE, EFFORT, 1, pt(2), (3, 1), ("dear", EXAMPLE)), ("there",))
        self.assertEqual(judge_price(DRIFT, SIX, ONE, EFFORT, 1, pt(2), (5, 2), ("pays", (pt(-2), ((), ())))),
            ("more", (3, 1)))
        self.assertEqual(price_paper(DRIFT, SIX, ONE, EFFORT, 0, pt(1), (1, 1)), ("pays", ()))
        self.assertEqual(price_paper(DRIFT, SIX, ONE, EFFORT, 0, pt(1), fr(9, 10)), ("dear", (((((1,), 0, 1),),),)))
        self.assertEqual(price_paper(DRIFT, SIX, ONE, EFFORT, 0, pt(2), (9, 1)), ("dear", (((((1,), 1),),),)))
        beyond = price_paper(DRIFT, SIX, ONE, EFFORT, 1, pt(3), (99, 1))
        self.assertEqual(beyond, ("dear", foe_paper(DRIFT, SIX, ONE, 1, pt(3))))
        self.assertIsNone(judge_price(DRIFT, SIX, ONE, EFFORT, 1, pt(3), (99, 1), beyond))

    def test_all_sorts(self):
        told = seeded(432)
        words, faults = {}, {}
        for plant, walls, goal, cost in trips(told, 40):
            left = told.randint(0, 3 if len(plant[0]) == 1 else 2)
            price = price_levels(plant, walls, goal, cost, left)[left]
            for x in (points_within(price[0], told, 2)[-2:] + near(told, walls, 1)[:2]):
                least = price_at(price, x)
                sure = Fraction(told.randint(-9, 9)) if least is None else least
                for t in (sure, sure - Fraction(1, 10 ** 9), sure - 3, sure + Fraction(1, 10 ** 9)):
                    args = (plant, walls, goal, cost, left, from_numbers(x), fr(t))
                    paper = unchanged(self, price_paper, *args)
                    self.assertEqual(paper[0], "pays" if least is not None and least <= t else "dear")
                    self.assertIsNone(judge_price(*args, paper))
                    self.assertIsNone(price_referee(*args, paper))
                    words[paper[0], least is None] = True
                    if paper[0] == "pays":
                        self.assertIsNone(judge_helm(*args[:3], left, args[5], paper[1]))
                        self.assertLessEqual(price_due(plant, cost, left, x, paper[1]), t)
                    for _ in range(2):
                        value = referees.changed(told, paper, ODD)
                        if told.random() < 0.3:
                            value = referees.changed(told, value, ODD)
                        fault = judge_price(*args, value)
                        self.assertEqual(fault, price_referee(*args, value), (args, value))
                        faults[fault and fault[0]] = True
        self.assertEqual(sorted(words), [("dear", False), ("dear", True), ("pays", False)])
        self.assertTrue({"form", "helm", "there", "ones", "turn", "row", "sum", "last"} <= set(faults), faults)

    def judged(self, value, fault, t=(5, 2), x=pt(2), left=1):
        for judge in (judge_price, price_referee):
            self.assertEqual(judge(DRIFT, SIX, ONE, EFFORT, left, x, t, value), fault, value)

    def test_each_fault(self):
        form, parts, mu, nu, lam = FIRST
        last = EXAMPLE[1]
        for entry, fault in [
                (FIRST, None), ((form, ((0, (1, 1), pt(2)),), mu, nu, lam), ("gust", 0, 0, 0)),
                ((form, ((0, (1, 1), pt(2)),), pt(1, 1), nu, lam), ("gust", 0, 0, 0)),
                ((form, parts, pt(1, 1), nu, lam), ("ones", 0, 0)), ((form, (), mu, nu, lam), ("ones", 0, 0)),
                ((form, ((0, (1, 2), pt(1)),), mu, nu, lam), ("ones", 0, 0)),
                ((form, parts, pt(1, 0), nu, lam), ("turn", 0, 0)), ((form, parts, mu, pt(1, 0), lam), ("turn", 0, 0)),
                ((form, parts, mu, nu, pt(1, 0)), ("row", 0, 0)), ((((2,), 1, 1),) + FIRST[1:], ("row", 0, 0)),
                ((((2,), 1, 2),) + FIRST[1:], ("there",)), ((((2,), 2, 2),) + FIRST[1:], None),
                ((((2,), 3, 2),) + FIRST[1:], ("sum", 0, 0)),
                ((((1,), 2, 1),) + FIRST[1:], ("sum", 0, 0)),
                ((form, ((0, (1, 1), pt(0)),), mu, nu, lam), ("sum", 0, 0)),
                ((form, parts, mu, pt(1, 1), lam), ("sum", 0, 0)), ((form, parts, mu, nu, pt(1, 1)), ("sum", 0, 0)),
                ((((1,), 0, 1),) + FIRST[1:], ("there",)), ((((1,), 1),) + FIRST[1:], ("form",)),
                ((((1,), 1, 0),) + FIRST[1:], ("form",)), ((((1,), 1, True),) + FIRST[1:], ("form",)),
                ((((1, 1), 1, 1),) + FIRST[1:], ("form",)), ((form, parts, nu, lam), ("form",)),
                (FIRST + (lam,), ("form",)),
                ((form, ((1, (1, 1), pt(1)),), mu, nu, lam), ("form",)),
                ((form, ((0, (0, 1), pt(1)),), mu, nu, lam), ("form",)),
                ((form, ((0, (1, 1), pt(1, 1)),), mu, nu, lam), ("form",)),
                ((form, parts, pt(0, -1), nu, lam), ("form",)),
                ((form, parts, pt(1), nu, lam), ("form",)), ((form, parts, mu, pt(1), lam), ("form",)),
                ((form, parts, mu, nu, pt(0, 0, 0)), ("form",))]:
            self.judged(("dear", ((entry,), last)), fault)
        for value, fault in [
                (("dear", EXAMPLE[:1]), ("form",)), (("dear", ((), last)), ("form",)),
                (("dear", EXAMPLE + (last,)), ("form",)),
                (("dear", ((FIRST,), ())), ("form",)), (("dear", ((FIRST,), ((((1,), 0, 2),),))), ("turn", 0, 0)),
                (("dear", ((FIRST,), ((((2,), 0, 2),),))), ("last", 0)),
                (("dear", ((FIRST,), last + ((((1,), 5, 1),),))), ("last", 1)),
                (("dear", ((FIRST,), last + ((((-1,), 0, 1),),))), None),
                (("dear", ((FIRST,), last + ((((1,), 6),), (((1,), 1),)))), None),
                (("dear", ((FIRST,), last + ((((1,), 2),),))), ("last", 1)),
                (("dear", ((FIRST,), last + ((((1,), 0, 2),),))), ("last", 1)),
                (("dear", ((FIRST,), last + ((((1,), 0, 0),),))), ("form",)),
                (("dear", ((FIRST,), last + ((((1,), 6), ()),))), ("form",)), (("dear",), ("form",)),
                (("cheap", EXAMPLE), ("form",)),
                (["dear", EXAMPLE], ("form",)), (("pays", EXAMPLE), ("helm", "form", ())), (("pays",), ("form",)),
                (("pays", (pt(-2), ((), ((),)))), ("helm", "form", (1,))),
                (("pays", (pt(-3), ((), ()))), ("helm", "wish", ())),
                (("pays", (pt(0), ((), ()))), ("helm", "goal", (1,))),
                (("pays", (pt(-2), ((), ()))), ("more", (3, 1)))]:
            self.judged(value, fault)
        self.judged(("pays", (pt(-2), ((), ()))), None, (3, 1))
        self.judged(("pays", (pt(-2), ((), ()))), ("helm", "wall", ()), (3, 1), pt(7))

    def test_rows_and_forms(self):
        # At 3 the goal can't be come to: a row of it is broken, shown by rows alone.
        word, tiers = price_paper(DRIFT, SIX, ONE, EFFORT, 1, pt(3), (0, 1))
        (row, parts, nu, lam), = tiers[0]
        self.judged((word, tiers), None, (0, 1), pt(3))
        self.judged((word, tiers), ("there",), (0, 1), pt(2))
        mixed = ((((row, parts + ((1, (1, 1), pt(0)),), nu, lam),), tiers[1] + ((((1,), 0, 1),),)))
        self.judged((word, mixed), ("kind", 0, 0, 1), (0, 1), pt(3))
        mixed = ((((row, parts + ((1, (1, 1), pt(2)),), nu, lam),), tiers[1] + ((((1,), 0, 1),),)))
        self.judged((word, mixed), ("gust", 0, 0, 1), (0, 1), pt(3))
        self.judged((word, (((row, parts, pt(0, 0), lam),), tiers[1])), ("turn", 0, 0), (0, 1), pt(3))
        self.judged((word, (((row, parts, nu, pt(1, 0)),), tiers[1])), ("row", 0, 0), (0, 1), pt(3))
        self.judged((word, ((((row[0], row[1] - 1), parts, nu, lam),), tiers[1])), ("sum", 0, 0), (0, 1), pt(3))
        self.judged((word, (tiers[0], ((((1,), 2),),))), ("sum", 0, 0), (0, 1), pt(3))
        # An entry is looked through wholly ahead of the next one, and a tier ahead of the last one.
        bad = (FIRST[0], FIRST[1], pt(1, 0), FIRST[3], FIRST[4])
        worse = (FIRST[0], ((0, (1, 1), pt(9)),)) + FIRST[2:]
        self.judged(("dear", ((FIRST, bad, worse), ((((1,), 0, 1),), (((9,), 9),)))), ("turn", 0, 1))
        self.judged(("dear", ((FIRST, worse, bad), ((((1,), 0, 1),), (((9,), 9),)))), ("gust", 0, 1, 0))

    def test_anything(self):
        for odd in ODD:
            for value in [odd, ("pays", odd), ("dear", odd), ("dear", (odd,)), ("dear", (odd, EXAMPLE[1])),
                    ("dear", (EXAMPLE[0], odd)),
                          ("dear", ((odd,), EXAMPLE[1])), ("dear", (EXAMPLE[0], (odd,))),
                          ("dear", (EXAMPLE[0], ((odd,),)))]:
                self.judged(value, price_referee(DRIFT, SIX, ONE, EFFORT, 1, pt(2), (5, 2), value))
            for k in range(5):
                value = ("dear", ((FIRST[:k] + (odd,) + FIRST[k + 1:],), EXAMPLE[1]))
                self.judged(value, price_referee(DRIFT, SIX, ONE, EFFORT, 1, pt(2), (5, 2), value))


class TestWhatHolds(unittest.TestCase):
    def test_a_shown_form_is_at_most_the_price(self):
        told = seeded(433)
        for plant, walls, goal, cost in trips(told, 20):
            found = price_levels(plant, walls, goal, cost, 2)
            for x in points_within(found[2][0], told, 2)[:2]:
                t = price_at(found[2], x) - Fraction(1, 3)
                word, tiers = price_paper(plant, walls, goal, cost, 2, from_numbers(x), fr(t))
                for j, tier in zip((2, 1, 0), tiers):
                    for entry in tier:
                        for y in points_within(found[j][0], told, 2):
                            if len(entry[0]) == 3:
                                self.assertLessEqual(worth_of(entry[0], y), price_at(found[j], y))
                            else:
                                self.assertLessEqual(product_of(entry[0][0], y), entry[0][1])


class TestTooGreat(unittest.TestCase):
    def test_levels(self):
        free = ((((0, 0), (), 0),), (((0, 0), 0),))
        self.assertRaises(TooGreat, price_paper, STILL, polygon(81), polygon(81), free, 0, pt(0, 0), (0, 1))
        self.assertRaises(TooGreat, price_paper, STILL, polygon(81), polygon(81), free, 0, pt(-9, 0), (0, 1))

    def test_papers_within(self):
        # 13 corners make 183 papers with two steps left, and 2,380 with three.
        wheel = (2, tuple((a, 10 ** 4) for a in (
            (10, 0), (9, 3), (7, 7), (3, 9), (0, 10), (-3, 9), (-7, 7), (-9, 3), (-10, 0), (-7, -7), (0, -10), (7, -7),
            (3, -9))))
        blow = ((pt(0, 0), pt(0, 0)), ((), ()), (pt(1, 0), pt(0, 1)), pt(0, 0), (0, ()), wheel)
        free = ((((0, 0), (), 1),), (((0, 0), 0),))
        walls = cube(2, -9999, 9999)
        self.assertEqual(len(gusts_of(blow)), 13)
        paper = price_paper(blow, walls, walls, free, 2, pt(0, 0), (2, 1))
        self.assertIsNone(judge_price(blow, walls, walls, free, 2, pt(0, 0), (2, 1), paper))
        self.assertRaises(TooGreat, price_paper, blow, walls, walls, free, 3, pt(0, 0), (3, 1))
        self.assertRaises(TooGreat, judge_price, blow, walls, walls, free, 3, pt(0, 0), (3, 1), ("pays", ()))
        # No helm paper is told where what is asked for is too little.
        dear = price_paper(blow, walls, walls, free, 3, pt(0, 0), fr(5, 2))
        self.assertEqual(dear[0], "dear")
        self.assertIsNone(judge_price(blow, walls, walls, free, 3, pt(0, 0), fr(5, 2), dear))
        self.assertEqual(judge_price(blow, walls, walls, free, 3, pt(0, 0), (3, 1), ("paid", ())), ("form",))


class TestTime(unittest.TestCase):
    def test_just_within(self):
        told = seeded(434)

        def some():
            return Fraction(told.randint(-999999, 999999), 999983)
        plant = (tuple(pt(some(), some()) for _ in range(2)), tuple(pt(some(), some()) for _ in range(2)),
                 tuple(pt(some() / 4, some() / 4) for _ in range(2)), pt(0, 0), cube(2, -3, 3), cube(2))
        cost = (tuple(((told.randint(-10 ** 6, 10 ** 6), 0), (told.randint(-10 ** 6, 10 ** 6), 1), 5)
            for _ in range(2)),
                tuple(((told.randint(-10 ** 6, 10 ** 6), k), -k) for k in range(6)))
        walls, goal = cube(2, -20, 20), cube(2, -9, 9)
        found = price_levels(plant, walls, goal, cost, 4)
        self.assertGreater(len(found[4][1]), 5)
        x = points_within(found[4][0], told, 0)[0]
        least = price_at(found[4], x)
        for t in (least, least - 1):
            paper = price_paper(plant, walls, goal, cost, 4, from_numbers(x), fr(t))
            self.assertEqual(paper[0], "pays" if t == least else "dear")
            self.assertIsNone(judge_price(plant, walls, goal, cost, 4, from_numbers(x), fr(t), paper))
