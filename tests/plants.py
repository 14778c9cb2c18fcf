"""Plants to try, and steps of plants reckoned by Fractions and by corners found by trying."""

import itertools
from fractions import Fraction

from tests.helpers import (
    corners_by_trying, cross, cube, fr, is_within, number, numbers, product_of, pt, random_room, simplex)

DRIFT = ((pt(1),), (pt(1),), (pt(1),), pt(0), (1, (((1,), 2), ((-1,), 2))), (1, (((1,), 1), ((-1,), 1))))
FAR_WALLS = (1, (((1,), 5), ((-1,), 5)))
NEAR_GOAL = (1, (((1,), 1), ((-1,), 1)))
D_WALLS = (1, (((1,), 6), ((-1,), 0)))
D_GOAL = (1, (((1,), 4), ((-1,), -2)))
WEAK = DRIFT[:4] + (cube(1), cube(1, -2, 2))
SLIDE = ((pt(1, 1), pt(0, 1)), (pt(0), pt(1)), (pt(1), pt(0)), pt(0, 0), cube(1), (1, (((2,), 1), ((-2,), 1))))
STILL = ((pt(1, 0), pt(0, 1)), ((), ()), ((), ()), pt(0, 0), (0, ()), (0, ()))


def some_number(told, most=3):
    return Fraction(told.randint(-most, most), told.choice([1, 1, 1, 2, 3]))


def some_matrix(told, r, c, most=2):
    return tuple(pt(*[some_number(told, most) for _ in range(c)]) for _ in range(r))


def some_bounded(told, n, has_points=True):
    """A bounded room: a box, a cross, a simplex, one of random rows, a flat one, one point."""
    kind = told.choice(["box", "cross", "simplex", "rows", "rows", "flat", "point"])
    if n == 0:
        return (0, (((), told.randint(0, 2)),) * told.randint(0, 1))
    if kind == "box":
        low = told.randint(-2, 1)
        return cube(n, low, low + told.randint(0, 2))
    if kind == "cross":
        return cross(n)
    if kind == "simplex":
        return simplex(n)
    if kind == "point":
        return cube(n, 1, 1)
    room = random_room(told, n, told.randint(1, 4), 2, {"flat": "flat", "rows": "full"}[kind])
    room = (n, room[1] + cube(n, -3, 3)[1])
    if has_points and not corners_by_trying(room):
        return cube(n)
    return room


def some_plant(told, n=None, m=None, k=None):
    """A right plant."""
    n = told.randint(1, 3) if n is None else n
    m = told.randint(0, 2) if m is None else m
    k = told.randint(0, 2) if k is None else k
    by_standing = some_matrix(told, n, n, 1)
    if told.random() < 0.5:
        by_standing = tuple(pt(*[int(i == j) for j in range(n)]) for i in range(n))
    still = pt(*[some_number(told, 1) for _ in range(n)])
    return (by_standing, some_matrix(told, n, m), some_matrix(told, n, k, 1), still, some_bounded(told, m),
            some_bounded(told, k))


def some_standing(told, n, most=4):
    return [Fraction(told.randint(-2 * most, 2 * most), told.choice([1, 2, 2, 3])) for _ in range(n)]


def moved(plant, x, u, w):
    """The next standing, all of Fractions."""
    found = []
    for line, other, third, still in zip(*plant[:4]):
        found.append(product_of(numbers(line), x) + product_of(numbers(other), u) + product_of(numbers(third), w)
                     + number(still))
    return found


def gusts_of(plant):
    return corners_by_trying(plant[5])


def wishes_of(plant):
    return corners_by_trying(plant[4])


def outs(plant, x, u, room):
    """The ascending corners of the gusts' room that lead out of a room."""
    return [w for w in gusts_of(plant) if not is_within(room, moved(plant, x, u, w))]


def asked(plant, x, room):
    """The rows of the good wishes at a standing: pairs of Fractions."""
    found = [([Fraction(k) for k in a], Fraction(b)) for a, b in plant[4][1]]
    m = plant[4][0]
    for r, s in room[1]:
        by_wish = [product_of(r, [number(line[j]) for line in plant[1]]) for j in range(m)]
        rest = [Fraction(s) - product_of(r, moved(plant, x, [0] * m, w)) for w in gusts_of(plant)]
        found.append((by_wish, min(rest)))
    return found


def has_points(n, rows):
    """Whether some rows of Fractions have a point together, which is found by trying; they are bounded."""
    whole = []
    for a, b in rows:
        scale = 1
        for k in list(a) + [b]:
            scale *= Fraction(k).denominator
        whole.append((tuple(int(k * scale) for k in a), int(b * scale)))
    return bool(corners_by_trying((n, tuple(whole))))


def is_back(plant, x, room):
    """Whether some wish, told ahead of the gust, leads a standing into a room."""
    return has_points(plant[4][0], asked(plant, x, room))


def is_late_back(plant, x, room):
    """Whether behind each gust some wish leads there: it is so if it is so behind each corner, as wishes are a room."""
    for w in gusts_of(plant):
        one = plant[:5] + ((len(w), tuple(
            row for k, v in enumerate(w) for row in (
                (tuple(v.denominator * int(j == k) for j in range(len(w))), v.numerator),
                (tuple(-v.denominator * int(j == k) for j in range(len(w))), -v.numerator)))),)
        if not is_back(one, x, room):
            return False
    return True


def points_within(room, told, many):
    """Corners of a bounded room, and means of them."""
    ends = corners_by_trying(room)
    found = list(ends)
    for _ in range(many if ends else 0):
        chosen = [told.choice(ends) for _ in range(3)]
        shares = [told.randint(0, 3) for _ in chosen]
        every = sum(shares)
        if every:
            found.append(tuple(sum(Fraction(s, every) * p[k] for s, p in zip(shares, chosen)) for k in range(room[0])))
    return found


def near(told, room, many=6):
    """Points within a room, on its rows, and a little beyond it."""
    found = points_within(room, told, many)
    for point in list(found):
        away = [told.choice([-1, 0, 1]) for _ in point]
        found.append(tuple(x + Fraction(k, 97) for x, k in zip(point, away)))
    return found


def from_numbers(point):
    return tuple(fr(x) for x in point)


def grid(n, most=2):
    return itertools.product([Fraction(k, 2) for k in range(-most, most + 1)], repeat=n)
