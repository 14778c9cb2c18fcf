import itertools
import unittest

from everygust import checks
from everygust.errors import BadShape
from tests.helpers import ODD, pt

ROOM = (2, (((1, 0), 1), ((-2, 4), 6)))
ONE = (1, (((1,), 2), ((-1,), 2)))
PLANT = (
    (((1, 1), (0, 1)), ((1, 2), (-3, 4))), (((1, 1),), ((0, 1),)), (((1, 1), (2, 1)), ((0, 1), (5, 1))),
    ((0, 1), (1, 3)), ONE, ROOM)
SIGHT = ((((1, 1), (0, 1)), ((1, 2), (1, 1)), ((0, 1), (0, 1))), (3, (((1, 1, 1), 4),)))
COST = ((((1, 2), (3,), 4), ((0, 0), (-1,), 0)), (((1, 1), 0), ((5, 6), 7)))
LOT = (ROOM, (2, ()), ROOM)
TABLE = ((ROOM, (((1, 1), (2, 1)),), ((3, 1),)), ((2, ()), (((0, 1), (1, 2)),), ((1, 7),)))
SHEET = (
    ("room", "a", ROOM), ("point", "b1", ((1, 2), (3, 1))), ("plant", "c", PLANT), ("sight", "d", SIGHT),
    ("cost", "e", COST), ("lot", "f", LOT), ("table", "g", TABLE), ("room", "h", (0, ())), ("point", "i", ()),
    ("lot", "j", ()), ("table", "k", ()))


def put(value, path, told):
    """The value with something else at a path."""
    if not path:
        return told
    k = path[0]
    return value[:k] + (put(value[k], path[1:], told),) + value[k + 1:]


class Checks(unittest.TestCase):
    def refused(self, path, check, *args):
        with self.assertRaises(BadShape) as told:
            check(*args)
        self.assertEqual(told.exception.path, path)
        self.assertIs(type(told.exception.path), tuple)

    def all_refused(self, check, value, cases):
        """Each case is (path of what is put, what is put, path that is told)."""
        self.assertIsNone(check(value))
        for path, told, expected in cases:
            self.refused(expected, check, put(value, path, told))
        for odd in ([], {}, None, True, 5, "x"):
            self.refused((), check, odd)


class TestSimple(Checks):
    def test_fraction(self):
        for value in ((0, 1), (1, 1), (-5, 3), (10 ** 600, 1), (1, 10 ** 600)):
            self.assertIsNone(checks.check_fraction(value))
        for value, path in [
                ((0, 2), ()), ((2, 4), ()), ((-2, 4), ()), ((1, 0), (1,)), ((1, -1), (1,)), ((True, 1), (0,)),
                ((1, True), (1,)), ((None, None), (0,)), ((1, "1"), (1,)), ((1,), ()), ((1, 1, 1), ()), ([1, 1], ()),
                (1, ()), ((), ()), (((1, 1), 1), (0,)), ((2, 0), (1,)), ((0, 0), (1,))]:
            self.refused(path, checks.check_fraction, value)

    def test_anything_is_refused(self):
        right = {"check_lot": ((),), "check_table": ((),), "check_sheet": ((),), "check_fraction": ((0, 1), (1, 2, 3))}
        for name in ("check_fraction", "check_room", "check_plant", "check_sight", "check_cost", "check_lot",
                     "check_table", "check_sheet"):
            for odd in ODD:
                if odd in right.get(name, ()) and type(odd) is tuple:
                    continue
                with self.assertRaises(BadShape):
                    getattr(checks, name)(odd)

    def test_point(self):
        for n in range(7):
            self.assertIsNone(checks.check_point(n, pt(*range(n))))
            self.refused((), checks.check_point, n, pt(*range(n + 1)))
            self.refused((), checks.check_point, n, list(pt(*range(n))))
        self.refused((1,), checks.check_point, 3, ((1, 2), [1, 2], (2, 2)))
        self.refused((2,), checks.check_point, 3, ((1, 2), (1, 2), (2, 2)))
        self.refused((0, 1), checks.check_point, 2, ((1, 0), 5))
        self.refused((), checks.check_point, 0, None)

    def test_row(self):
        self.assertIsNone(checks.check_row(2, ((1, 0), 1)))
        self.assertIsNone(checks.check_row(0, ((), 0)))
        for value, path in [
                (((1,), 1), (0,)), (((1, 0), True), (1,)), (((1, False), 1), (0, 1)), ([(1, 0), 1], ()),
                (([1, 0], 1), (0,)), (((1, 0), 1, 1), ()), (((1, 0),), ()), (((1, "a"), None), (0, 1)),
                (((1, 0), (1, 1)), (1,)), (None, ())]:
            self.refused(path, checks.check_row, 2, value)

    def test_matrix(self):
        self.assertIsNone(checks.check_matrix(2, 1, (((1, 1),), ((0, 1),))))
        self.assertIsNone(checks.check_matrix(0, 3, ()))
        self.assertIsNone(checks.check_matrix(2, 0, ((), ())))
        for value, path in [
                (((),), ()), (((), ()), (0,)), ((((1, 1),), ((2, 2),)), (1, 0)), ((((1, 1),), [(1, 1)]), (1,)),
                ([((1, 1),), ((1, 1),)], ())]:
            self.refused(path, checks.check_matrix, 2, 1, value)

    def test_room(self):
        self.all_refused(checks.check_room, ROOM, [
            ((0,), True, (0,)), ((0,), 7, (0,)), ((0,), -1, (0,)), ((0,), 3, (1, 0, 0)), ((0,), "2", (0,)),
            ((1,), [], (1,)), ((1, 0), [(1, 0), 1], (1, 0)), ((1, 1, 0), (1,), (1, 1, 0)),
            ((1, 1, 0, 1), False, (1, 1, 0, 1)), ((1, 1, 1), None, (1, 1, 1)), ((), (2,), ()), ((), (2, (), ()), ())])
        for n in range(7):
            self.assertIsNone(checks.check_room((n, ())))
            self.assertIsNone(checks.check_room((n, (((0,) * n, -10 ** 300),))))


class TestGreater(Checks):
    def test_plant(self):
        self.all_refused(checks.check_plant, PLANT, [
            ((), PLANT[:5], ()), ((), PLANT + (1,), ()), ((0,), (), (0,)), ((0,), PLANT[0] * 4, (0,)),
            ((0,), [], (0,)), ((0, 0), ((1, 1),), (0, 0)), ((0, 1), None, (0, 1)), ((0, 1, 1), (2, 4), (0, 1, 1)),
            ((0, 1, 1), (1, 0), (0, 1, 1, 1)), ((1,), PLANT[1][:1], (1,)), ((1, 0), (), (1, 1)),
            ((1, 0), ((0, 1),) * 7, (1, 0)), ((1, 0), 5, (1, 0)), ((1, 1), (), (1, 1)), ((2, 0), ((0, 1),) * 7, (2, 0)),
            ((2, 1), ((0, 1),), (2, 1)), ((3,), ((0, 1),), (3,)), ((3, 1), (3, 3), (3, 1)), ((4,), ROOM, (4, 0)),
            ((4, 0), True, (4, 0)), ((4, 1, 0, 0), (1, 1), (4, 1, 0, 0)), ((5,), ONE, (5, 0)), ((5,), (2,), (5,)),
            ((5, 1), 3, (5, 1))])

    def test_plant_bounds(self):
        zero = (0, 1)
        for n in range(1, 7):
            for m in (0, 6):
                lines = ((zero,) * m,) * n
                plant = (((zero,) * n,) * n, lines, lines, (zero,) * n, (m, ()), (m, ()))
                self.assertIsNone(checks.check_plant(plant))
        self.refused((0,), checks.check_plant, (((zero,) * 7,) * 7, ((),) * 7, ((),) * 7, (zero,) * 7, (0, ()), (0, ())))

    def test_sight(self):
        self.all_refused(checks.check_sight, SIGHT, [
            ((0,), SIGHT[0] * 3, (0,)), ((0,), SIGHT[0][:2], (1, 0)), ((0, 0), ((0, 1),) * 7, (0, 0)),
            ((0, 0), ((0, 1),), (0, 1)), ((0, 2, 1), (3, 6), (0, 2, 1)), ((1,), ROOM, (1, 0)), ((1,), None, (1,)),
            ((1, 1), (((1,), 1),), (1, 1, 0, 0)), ((), SIGHT + ((),), ())])
        self.assertIsNone(checks.check_sight(((), (0, ()))))
        self.assertIsNone(checks.check_sight((((),) * 6, (6, ()))))
        self.refused((1, 0), checks.check_sight, ((), (1, ())))

    def test_cost(self):
        self.all_refused(checks.check_cost, COST, [
            ((0,), (), (0,)), ((1,), (), (1,)), ((0,), [], (0,)), ((0, 0), ((1, 2), (3,)), (0, 0)),
            ((0, 0, 0), (1,), (0, 1, 0)), ((0, 0, 0), (0,) * 7, (0, 0, 0)), ((0, 0, 1), (0,) * 7, (0, 0, 1)),
            ((0, 0, 1), (), (0, 1, 1)), ((0, 1, 0), (1, 2, 3), (0, 1, 0)), ((0, 1, 2), (0, 1), (0, 1, 2)),
            ((0, 0, 0, 1), True, (0, 0, 0, 1)), ((1, 1), ((5, 6),), (1, 1)), ((1, 1, 0), (5,), (1, 1, 0)),
            ((1, 0, 1), None, (1, 0, 1)), ((1, 0, 0, 0), (1, 1), (1, 0, 0, 0))])
        self.assertIsNone(checks.check_cost(((((), (), 0),), (((), 0),))))
        self.assertIsNone(checks.check_cost((((((0,) * 6), (0,) * 6, 0),), (((0,) * 6, 0),))))

    def test_lot(self):
        self.all_refused(checks.check_lot, LOT, [
            ((1,), ONE, (1, 0)), ((0,), ONE, (1, 0)), ((2,), (2,), (2,)), ((2, 1, 0, 0), (1,), (2, 1, 0, 0)),
            ((0, 0), 7, (0, 0)), ((1, 0), False, (1, 0))])
        self.assertIsNone(checks.check_lot(()))
        self.assertIsNone(checks.check_lot(((6, ()),) * 40))

    def test_table(self):
        self.all_refused(checks.check_table, TABLE, [
            ((0,), TABLE[0][:2], (0,)), ((0, 0), ONE, (0, 1, 0)), ((0, 1), (), (0, 2)),
            ((0, 1), TABLE[0][1] * 7, (0, 1)), ((0, 1), TABLE[0][1] * 2, (0, 2)), ((1, 1), TABLE[0][1] * 2, (1, 1)),
            ((1, 0), ONE, (1, 0, 0)), ((1, 1, 0), ((1, 1),), (1, 1, 0)), ((1, 2), (), (1, 2)),
            ((1, 2, 0), (7, 7), (1, 2, 0)), ((1,), [], (1,)), ((0, 0, 0), 9, (0, 0, 0))])
        self.assertIsNone(checks.check_table(()))
        self.assertIsNone(checks.check_table((((3, ()), (), ()), ((3, ()), (), ()))))


class TestSheet(Checks):
    def test_sheet(self):
        self.all_refused(checks.check_sheet, SHEET, [
            ((0,), ("room", "a"), (0,)), ((0,), ["room", "a", ROOM], (0,)), ((0, 0), "rooms", (0, 0)),
            ((0, 0), None, (0, 0)), ((0, 0), [], (0, 0)), ((0, 1), "b1", (1, 1)), ((3, 1), "a", (3, 1)),
            ((3, 1), "room", (3, 1)), ((3, 1), "A", (3, 1)), ((3, 1), ["a"], (3, 1)), ((1, 2), ((0, 1),) * 7, (1, 2)),
            ((1, 2), [], (1, 2)), ((1, 2, 0), (2, 2), (1, 2, 0)), ((0, 2), ((0, 1),), (0, 2)),
            ((2, 2, 0, 0, 0), (4, 2), (2, 2, 0, 0, 0)), ((3, 2, 1), ONE, (3, 2, 1, 0)), ((4, 2, 1), (), (4, 2, 1)),
            ((5, 2, 1), ONE, (5, 2, 1, 0)), ((6, 2, 1, 2), (), (6, 2, 1, 2)), ((0, 0), "point", (0, 2, 0)),
            ((10, 0), "plant", (10, 2)), ((8, 2), ((0, 1),) * 6 + ((1, 1),), (8, 2))])
        self.assertIsNone(checks.check_sheet(()))
        self.assertIsNone(checks.check_sheet((("point", "x", ((0, 1),) * 6),)))

    def test_many_parts(self):
        parts = tuple(("room", f"r{k}", (0, ())) for k in range(31))
        self.assertIsNone(checks.check_sheet(parts[:30]))
        self.refused((), checks.check_sheet, parts)
        self.refused((), checks.check_sheet, (None,) * 31)
        self.refused((0,), checks.check_sheet, (None,) * 30)

    def test_the_first_of_several(self):
        wrongs = [
            ((0, 0), "none", (0, 0)), ((0, 2, 0), 9, (0, 2, 0)), ((1, 1), "", (1, 1)),
            ((2, 2, 0, 1, 0), (1, 0), (2, 2, 0, 1, 0, 1)), ((2, 2, 4, 0), 6, (2, 2, 4, 0)), ((4, 2, 0, 1), 3, (4, 2, 0, 1)),
            ((6, 2, 0, 2), None, (6, 2, 0, 2)), ((7,), 0, (7,)), ((9, 2), 0, (9, 2))]
        for one, other in itertools.combinations(wrongs, 2):
            value = put(put(SHEET, other[0], other[1]), one[0], one[1])
            self.refused(one[2], checks.check_sheet, value)


class TestNames(unittest.TestCase):
    WORDS = ("sheet room point plant sight cost lot table piece state helm gust still wishes gusts see slips step "
             "end").split()

    def test_names(self):
        for name in ("a", "z", "a0", "room1", "rooms", "abcdefghijkl", "z99999999999", "begin", "ends", "wish", "row"):
            self.assertIs(checks.is_name(name), True)
        for name in ("", "0", "0a", "A", "aB", "a_", "a b", "a-", "a\n", "abcdefghijklm", " a", "a\t", "\xe4", "a\xe4"):
            self.assertIs(checks.is_name(name), False)
        for word in self.WORDS:
            self.assertIs(checks.is_name(word), False)
            self.assertIs(checks.is_name(word + "x"), True)

    def test_anything(self):
        for odd in ODD:
            self.assertIs(checks.is_name(odd), odd in ("bare",))
        for odd in (["a"], ("a",), b"a", 1, None, True, {"a": 1}):
            self.assertIs(checks.is_name(odd), False)
