"""What the tests have in common: values to try, and reckoning by other ways than the package's."""

import copy
import itertools
import random
from fractions import Fraction
from math import gcd


def fr(p, q=1):
    """A fraction of the package from integers or Fractions."""
    told = Fraction(p) / Fraction(q)
    return (told.numerator, told.denominator)


def pt(*told):
    """A point of the package from numbers."""
    return tuple(fr(one) for one in told)


def number(t):
    """The Fraction that a fraction of the package tells."""
    return Fraction(t[0], t[1])


def numbers(point):
    return [number(t) for t in point]


def product_of(one, other):
    return sum((Fraction(x) * Fraction(y) for x, y in zip(one, other)), Fraction(0))


def is_within(room, point):
    """Whether a point, of Fractions, is one of a room."""
    return all(product_of(a, point) <= b for a, b in room[1])


def cube(n, low=-1, high=1):
    """The room of n whose coordinates are all between two integers."""
    rows = []
    for k in range(n):
        rows.append((tuple(1 if j == k else 0 for j in range(n)), high))
        rows.append((tuple(-1 if j == k else 0 for j in range(n)), -low))
    return (n, tuple(rows))


def cross(n):
    """The room of the points whose coordinates, without signs, make at most 1 together."""
    return (n, tuple((signs, 1) for signs in itertools.product((-1, 1), repeat=n)))


def simplex(n):
    """The room of the points with coordinates of at least 0 that make at most 1 together."""
    rows = [(tuple(-1 if j == k else 0 for j in range(n)), 0) for k in range(n)]
    return (n, tuple(rows) + (((1,) * n, 1),))


def polygon(many):
    """The room of the means of the points (t, t * t), t from 0 to many - 1: as many sides as corners."""
    rows = [((2 * t + 1, -1), t * (t + 1)) for t in range(many - 1)]
    return (2, tuple(rows) + (((1 - many, 1), 0),))


def slanted(room):
    """The room with one more coordinate, which is the sum of the others."""
    n, rows = room
    flat = (1,) * n + (-1,)
    return (n + 1, tuple((a + (0,), b) for a, b in rows) + ((flat, 0), (tuple(-k for k in flat), 0)))


def random_room(told, n, many, big, kind):
    """A room of random rows: 'any' bound, or kept by some point ('full'), or tight there ('point'), or in part."""
    inner = [told.randint(-big, big) for _ in range(n)]
    rows = []
    for k in range(many):
        a = tuple(told.randint(-big, big) for _ in range(n))
        reached = sum(x * y for x, y in zip(a, inner))
        if kind == "any":
            rows.append((a, told.randint(-big, big)))
        elif kind == "full":
            rows.append((a, reached + told.randint(1, big * big)))
        elif kind == "point":
            rows.append((a, reached))
        else:
            rows.append((a, reached + told.choice([0, 0, told.randint(0, big)])))
    if kind == "flat" and rows:
        a, b = rows[0]
        rows.append((tuple(-k for k in a), -b))
    return (n, tuple(rows))


def solved(rows, right):
    """The one solution of equations of Fractions, or None if there is not just one."""
    n = len(rows[0]) if rows else 0
    left = [[Fraction(k) for k in row] + [Fraction(b)] for row, b in zip(rows, right)]
    place = 0
    for column in range(n):
        pivot = next((k for k in range(place, len(left)) if left[k][column]), None)
        if pivot is None:
            return None
        left[place], left[pivot] = left[pivot], left[place]
        head = left[place][column]
        left[place] = [k / head for k in left[place]]
        for k, row in enumerate(left):
            if k != place and row[column]:
                left[k] = [x - row[column] * y for x, y in zip(row, left[place])]
        place += 1
    if any(row[n] for row in left[place:]):
        return None
    return tuple(row[n] for row in left[:place])


def corners_by_trying(room):
    """The ascending corners of a room, by all choices of as many rows as there are coordinates."""
    n, rows = room
    if n == 0:
        return [()] if is_within(room, ()) else []
    found = set()
    for chosen in itertools.combinations(rows, n):
        point = solved([a for a, _ in chosen], [b for _, b in chosen])
        if point is not None and is_within(room, point):
            found.add(point)
    return sorted(found)


def bare_by_elimination(room):
    """Whether a room has no point, one unknown after another taken out."""
    n, rows = room
    left = {tuple(a) + (b,) for a, b in rows}
    for _ in range(n):
        up, down, rest = [], [], set()
        for row in left:
            (up if row[0] > 0 else down).append(row) if row[0] else rest.add(row[1:])
        for one in up:
            for other in down:
                told = [-other[0] * x + one[0] * y for x, y in zip(one[1:], other[1:])]
                shared = 0
                for k in told:
                    shared = gcd(shared, k)
                rest.add(tuple(k // shared for k in told) if shared else tuple(told))
        left = rest
    return any(row[0] < 0 for row in left)


ODD = [None, True, False, 0, 1, -1, 7, "", "bare", "room", (), [], {}, (0,), (0, 1), [0, 1], ((0, 1),), [(0, 1)],
       ("bare",), ("bare", ()), ("bare", None), ("most", 1), ("far", (), ()), ("point", ((0, 1),)), {"a": 1},
       ((True, 1),), ((0, True),), (1.0,) if False else (1, 2, 3), 10 ** 700, "x" * 400, ("weights", []),
       ("box", ((),)), ("rows", ((),)), ("mixed", (1,)), ("parted", ((2, 2),)), ("way", (), ()), (("bare",), ()),
       (None, None), ((), ()), ([], []), (((),),)]


def unchanged(test, call, *args):
    """Calls with arguments that must not change, twice, and tells what comes, which must be the same both times."""
    kept = copy.deepcopy(args)
    first = call(*args)
    test.assertEqual(args, kept)
    again = call(*copy.deepcopy(kept))
    test.assertEqual(first, again)
    if isinstance(first, (list, dict)):
        test.assertIsNot(first, again)
    return first


def seeded(number_told):
    return random.Random(number_told)
