import itertools
import unittest
from fractions import Fraction

from everygust.errors import TooGreat
from everygust.levels import levels
from everygust.prices import price_levels
from everygust.tableprices import play_price, worst_price
from everygust.tables import made_table
from tests import referees
from tests.helpers import (
    ODD, corners_by_trying, cube, fr, is_within, number, numbers, product_of, pt, seeded, unchanged)
from tests.plants import DRIFT, STILL, from_numbers, gusts_of, moved, points_within, some_standing
from tests.test_lots import rough
from tests.test_prices import EFFORT, end_due, price_at, some_cost, step_due, trips

FOUR = (EFFORT[0], (((4,), 0), ((-4,), 0)))


def piece(low, high, by_standing, still):
    """A piece of one coordinate, from a number to another one."""
    low, high = Fraction(low), Fraction(high)
    room = (1, (((high.denominator,), high.numerator), ((-low.denominator,), -low.numerator)))
    return (room, (pt(by_standing),), pt(still))


NEAR = (piece(Fraction(-1, 2), Fraction(1, 2), 0, 0), piece(-2, Fraction(-1, 2), -1, 0),
    piece(Fraction(1, 2), 2, -1, 0))
FAR = (piece(-2, 2, 0, 0),)


def told_by(one, x):
    return [product_of([number(k) for k in line], x) + number(k) for line, k in zip(one[1], one[2])]


def price_of_play(plant, cost, tables, x, play):
    """The price of a play, by Fractions; None if it is none."""
    if type(play) is not tuple or len(play) != len(tables):
        return None
    price = Fraction(0)
    for table, pair in zip(reversed(tables), play):
        if type(pair) is not tuple or len(pair) != 2 or type(pair[0]) is not int or not 0 <= pair[0] < len(table):
            return None
        if not referees.is_list_of(pair[1], plant[5][0]) or not is_within(plant[5], numbers(pair[1])):
            return None
        if not is_within(table[pair[0]][0], x):
            return None
        u = told_by(table[pair[0]], x)
        price += step_due(cost, x, u)
        x = moved(plant, x, u, numbers(pair[1]))
    return price + end_due(cost, x)


def worst_by_trying(plant, cost, tables, x):
    """The worst price, by all tuples: each is greatest at a corner of a room of gusts, found by trying."""
    k, j = plant[5][0], len(tables)
    best = None
    for pieces in itertools.product(*[range(len(table)) for table in reversed(tables)]):
        chosen = [table[i] for table, i in zip(reversed(tables), pieces)]
        rows = []

        def standings(gusts):
            found, u_told = [x], []
            for step, one in enumerate(chosen):
                u_told.append(told_by(one, found[-1]))
                found.append(moved(plant, found[-1], u_told[-1], gusts[step * k:step * k + k]))
            return found, u_told
        zero = [Fraction(0)] * (k * j)
        ways = [[Fraction(int(a == b)) for a in range(k * j)] for b in range(k * j)]
        for step, one in enumerate(chosen):
            for a, b in plant[5][1]:
                rows.append(([0] * (step * k) + list(a) + [0] * ((j - step - 1) * k), b))
            for a, b in one[0][1]:
                alone = product_of(a, standings(zero)[0][step])
                rows.append(([product_of(a, standings(way)[0][step]) - alone for way in ways], b - alone))
        for gusts in corners_by_trying((k * j, rows)):
            found, told_wishes = standings(list(gusts))
            price = sum(step_due(cost, y, u) for y, u in zip(found, told_wishes)) + end_due(cost, found[-1])
            best = price if best is None else max(best, price)
    return best


class TestWorst(unittest.TestCase):
    def test_example(self):
        price, play = unchanged(self, worst_price, DRIFT, FOUR, (NEAR, FAR), pt(0))
        self.assertEqual(price, (6, 1))
        self.assertEqual(unchanged(self, play_price, DRIFT, FOUR, (NEAR, FAR), pt(0), play), (6, 1))
        told = ((0, pt(Fraction(1, 2))), (0, pt(1)))
        self.assertEqual(play_price(DRIFT, FOUR, (NEAR, FAR), pt(0), told), (6, 1))
        # Gusts that are corners cost at most 5.
        ends = [play_price(DRIFT, FOUR, (NEAR, FAR), pt(0), ((0, pt(one)), (i, pt(other))))
                for one in (-1, 1) for other in (-1, 1) for i in range(3)]
        self.assertEqual(max(number(one) for one in ends if one is not None), 5)

    def test_without_tables(self):
        self.assertEqual(unchanged(self, worst_price, DRIFT, EFFORT, (), pt(-3)), ((3, 1), ()))
        self.assertEqual(unchanged(self, play_price, DRIFT, EFFORT, (), pt(-3), ()), (3, 1))
        self.assertIsNone(play_price(DRIFT, EFFORT, (), pt(-3), ((0, pt(0)),)))
        self.assertEqual(worst_price(DRIFT, EFFORT, [], pt(-3)), ((3, 1), ()))

    def test_lists_count_as_tuples(self):
        self.assertEqual(worst_price(DRIFT, FOUR, [NEAR, FAR], pt(0)), worst_price(DRIFT, FOUR, (NEAR, FAR), pt(0)))

    def test_no_gusts(self):
        cost = ((((1, 0), (), 2),), (((0, 1), 0), ((0, -1), 0)))
        table = ((cube(2), (), ()), (cube(2, 0, 3), (), ()))
        self.assertEqual(worst_price(STILL, cost, (table, table[:1]), pt(1, -1))[0], (7, 1))
        self.assertIn(worst_price(STILL, cost, (table, table), pt(1, 1))[1], [
            ((i, ()), (j, ())) for i in range(2) for j in range(2)])

    def test_by_trying(self):
        told = seeded(441)
        steps = {}
        for plant, walls, goal, cost in trips(told, 60):
            n, m, k = len(plant[0]), plant[4][0], plant[5][0]
            for j in range(3):
                rooms = levels(plant, walls, goal, j)
                points = points_within(rooms[j], told, 1)
                if not points or k * j > 2:
                    continue
                tables = []
                for i in range(j):
                    table = made_table(plant, rooms[i + 1], rooms[i])
                    if told.random() < 0.5 and len(table) < 3:
                        # One more piece, which tells what need not be a wish.
                        table += ((cube(n, -1, 1), tuple(pt(*some_standing(told, n, 1)) for _ in range(m)),
                                   pt(*some_standing(told, m, 1))),)
                    tables.append(table)
                if not self.is_whole(plant, tables, rooms, j):
                    continue
                x = points[-1]
                price, play = unchanged(self, worst_price, plant, cost, tuple(tables), from_numbers(x))
                self.assertEqual(number(price), worst_by_trying(plant, cost, tables, x))
                self.assertEqual(price_of_play(plant, cost, tables, x, play), number(price))
                self.assertEqual(play_price(plant, cost, tuple(tables), from_numbers(x), play), price)
                if all(len(table) for table in tables) and self.are_made(plant, rooms, tables):
                    least = price_at(price_levels(plant, walls, goal, cost, j)[j], x)
                    self.assertGreaterEqual(number(price), least)
                for _ in range(5):
                    drawn = self.drawn(told, plant, tables, x)
                    due = price_of_play(plant, cost, tables, x, drawn)
                    self.assertEqual(play_price(plant, cost, tuple(tables), from_numbers(x), drawn), fr(due))
                    self.assertLessEqual(due, number(price))
                    value = referees.changed(told, drawn, ODD) if drawn else told.choice([(1,), ((0, pt(0)),)])
                    due = price_of_play(plant, cost, tables, x, value)
                    self.assertEqual(play_price(plant, cost, tuple(tables), from_numbers(x), value), None
                        if due is None else fr(due))
                steps[j] = steps.get(j, 0) + 1
        self.assertTrue(all(steps[j] > 5 for j in range(3)), steps)

    def are_made(self, plant, rooms, tables):
        return all(table == made_table(plant, rooms[i + 1], rooms[i]) for i, table in enumerate(tables))

    def is_whole(self, plant, tables, rooms, j):
        """Whether what is asked for holds: there is a piece wherever the craft may come to."""
        return j < 2 or self.are_made(plant, rooms, tables[1:] and [made_table(plant, rooms[1], rooms[0])] + tables[1:])

    def drawn(self, told, plant, tables, x):
        found = []
        for table in reversed(tables):
            i = told.choice([i for i, one in enumerate(table) if is_within(one[0], x)])
            gust = told.choice(points_within(plant[5], told, 3))
            found.append((i, from_numbers(gust)))
            x = moved(plant, x, told_by(table[i], x), gust)
        return tuple(found)


class TestPlays(unittest.TestCase):
    def test_none(self):
        for play in [((0, pt(Fraction(1, 2))),), ((0, pt(0)), (1, pt(0))), ((1, pt(0)), (0, pt(0))),
                ((0, pt(2)), (0, pt(0))),
                     ((0, pt(0)), (3, pt(0))), ((0, pt(0)), (-1, pt(0))), ((0, pt(0)), (0, pt(0)), (0, pt(0))),
                     ((0, pt(0)), (0, ())), ((0, pt(0, 0)), (0, pt(0)))]:
            self.assertIsNone(unchanged(self, play_price, DRIFT, FOUR, (NEAR, FAR), pt(0), play))
            self.assertIsNone(price_of_play(DRIFT, FOUR, (NEAR, FAR), [Fraction(0)], play))
        for odd in ODD:
            for play in (odd, (odd, (0, pt(0))), ((0, pt(0)), odd), ((odd, pt(0)), (0, pt(0))), ((0, odd), (0, pt(0)))):
                due = price_of_play(DRIFT, FOUR, (NEAR, FAR), [Fraction(0)], play)
                self.assertEqual(play_price(DRIFT, FOUR, (NEAR, FAR), pt(0), play), None if due is None else fr(due))
        # Both pieces have 1 / 2; the wish need not be one of the plant's.
        for i, due in ((0, (4, 1)), (2, (5, 2))):
            self.assertEqual(play_price(DRIFT, FOUR, (NEAR, FAR), pt(0),
                ((0, pt(Fraction(1, 2))), (i, pt(Fraction(1, 2))))), due)
        wide = (piece(-9, 9, 3, 3),)
        self.assertEqual(play_price(DRIFT, FOUR, (wide,), pt(1), ((0, pt(0)),)), (34, 1))


class TestTooGreat(unittest.TestCase):
    def test_tuples(self):
        one = piece(-99, 99, 0, 0)
        triples = tuple(((0,), (0,), k) for k in range(6))
        pairs = tuple(((0,), k) for k in range(6))
        # 10 pieces, 2 triples, two steps and 5 ends are 2,000 tuples.
        fits = ((one,) * 10,) * 2
        cost = (triples[:2], pairs[:5])
        self.assertEqual(worst_price(DRIFT, cost, fits, pt(0))[0], (6, 1))
        self.assertRaises(TooGreat, worst_price, DRIFT, (triples[:2], pairs), fits, pt(0))
        self.assertRaises(TooGreat, worst_price, DRIFT, (triples[:3], pairs[:5]), fits, pt(0))
        self.assertRaises(TooGreat, worst_price, DRIFT, cost, ((one,) * 10, (one,) * 11), pt(0))
        # 2,001 tuples are 3 times 23 times 29.
        self.assertRaises(TooGreat, worst_price, DRIFT, (triples[:1], pairs[:3]), ((one,) * 23, (one,) * 29), pt(0))
        self.assertEqual(play_price(DRIFT, (triples[:1], pairs[:3]), ((one,) * 23, (one,) * 29), pt(0),
            ((1, pt(0)), (1, pt(0)))), (2, 1))

    def test_just_within_in_time(self):
        told = seeded(442)
        plant = (((fr(1), fr(1, 3)), (fr(0), fr(1))), (pt(1), pt(1)), (pt(1, 0), pt(0, 1)), pt(0, 0), cube(1), cube(2))
        table = tuple((cube(2, -200 + 60 * k, 90), (pt(Fraction(-1, 3), Fraction(k, 7)),), pt(0)) for k in range(2))
        table = ((cube(2, -10 ** 6, 10 ** 6),) + table[0][1:], table[1])
        cost = some_cost(told, 2, 1, 1, 1)
        cost = (cost[0] + (((1, 2), (3,), 4), ((-1, 0), (1,), 2)), cost[1])
        price, play = worst_price(plant, cost, (table,) * 4, pt(1, 1))
        self.assertEqual(price_of_play(plant, cost, (table,) * 4, [Fraction(1)] * 2, play), number(price))
        self.assertGreater(len(gusts_of(plant)), 3)
