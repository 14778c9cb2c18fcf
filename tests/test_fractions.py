import unittest
from fractions import Fraction

from everygust import fractions
from tests.helpers import fr, number, seeded, unchanged

GREAT = 10 ** 40 - 17


class TestFractions(unittest.TestCase):
    def values(self):
        told = seeded(11)
        found = [(0, 1), (1, 1), (-1, 1), (1, 2), (-7, 3), (6, 5), (GREAT, 1), (1, GREAT), fr(-GREAT, 10 ** 39 + 3)]
        for _ in range(20):
            found.append(fr(told.randint(-50, 50), told.randint(1, 30)))
            found.append(fr(told.randint(-GREAT, GREAT), told.randint(1, GREAT)))
        return found

    def test_fraction_of(self):
        for p, q in [(0, 1), (0, -5), (6, 4), (-6, 4), (6, -4), (-6, -4), (7, 1), (7, -1), (0, GREAT), (GREAT, GREAT),
                     (GREAT, -2 * GREAT), (3, GREAT)]:
            found = unchanged(self, fractions.fraction_of, p, q)
            self.assertEqual(found, fr(p, q))
            self.assertGreaterEqual(found[1], 1)
            self.assertIs(type(found), tuple)

    def test_two_by_two(self):
        values = self.values()
        for one in values:
            for other in values:
                x, y = number(one), number(other)
                self.assertEqual(fractions.plus(one, other), fr(x + y))
                self.assertEqual(fractions.minus(one, other), fr(x - y))
                self.assertEqual(fractions.times(one, other), fr(x * y))
                self.assertEqual(fractions.over(one, other), fr(x / y) if y else None)
                self.assertIs(fractions.is_less(one, other), x < y)

    def test_none_over_0(self):
        self.assertIsNone(fractions.over((3, 1), (0, 1)))
        self.assertIsNone(fractions.over((0, 1), (0, 1)))
        self.assertEqual(fractions.over((0, 1), (-3, 2)), (0, 1))

    def test_lists(self):
        values = self.values()
        self.assertEqual(fractions.total([]), (0, 1))
        self.assertEqual(fractions.total(()), (0, 1))
        for many in (1, 2, 5, 30, len(values)):
            told = values[:many]
            expected = [number(t) for t in told]
            self.assertEqual(unchanged(self, fractions.total, told), fr(sum(expected)))
            self.assertEqual(fractions.total(tuple(told)), fr(sum(expected)))
            self.assertEqual(unchanged(self, fractions.lowest, told), fr(min(expected)))
            self.assertEqual(fractions.highest(tuple(told)), fr(max(expected)))
        self.assertEqual(fractions.lowest([(1, 2), (1, 2)]), (1, 2))

    def test_floor_and_ceiling(self):
        for t in self.values() + [(7, 2), (-7, 2), (4, 1), (-4, 1), (-1, GREAT), (1, GREAT)]:
            x = number(t)
            self.assertEqual(fractions.floor_of(t), x.__floor__())
            self.assertEqual(fractions.ceiling_of(t), x.__ceil__())
        self.assertEqual([fractions.floor_of((-1, 2)), fractions.ceiling_of((-1, 2))], [-1, 0])

    def test_sums_of_many(self):
        told = [fr(Fraction(1, k)) for k in range(1, 200)]
        self.assertEqual(fractions.total(told), fr(sum(Fraction(1, k) for k in range(1, 200))))
