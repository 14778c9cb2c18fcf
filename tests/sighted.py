"""Sights and records to try, and how they are looked through by Fractions."""

from fractions import Fraction

from tests import referees
from tests.helpers import cube, is_within, number, numbers, product_of, pt
from tests.plants import moved, points_within, some_bounded, some_matrix, some_plant

HALF = (1, (((-2,), 1), ((2,), 1)))
WALK = ((pt(1),), (pt(1),), (pt(1),), pt(0), cube(1), HALF)
GLANCE = ((pt(1),), HALF)
BLINDFOLD = ((), (0, ()))


def seen_by(sight, x):
    return [product_of(numbers(line), x) for line in sight[0]]


def slip_of(sight, x, y):
    return [a - b for a, b in zip(y, seen_by(sight, x))]


def is_given(sight, x, y):
    """Whether a standing may give a look, both of Fractions."""
    return is_within(sight[1], slip_of(sight, x, y))


def some_sight(told, n, s=None):
    s = told.randint(0, 2) if s is None else s
    return (some_matrix(told, s, n), some_bounded(told, s))


def trace_of(plant, sight, record, x, winds, slipped):
    """The standings, all of Fractions, that a trace goes through, one behind each beginning of the record."""
    found = [list(x)]
    for place, member in enumerate(record):
        if place % 2:
            found.append(moved(plant, found[-1], numbers(member), winds[place // 2]))
        else:
            found.append(found[-1])
    return found


def some_record(told, plant, sight, room, looks, wishes=None):
    """A record with a standing, gusts and slips that make it come; the looks' number tells how long it is."""
    x = told.choice(points_within(room, told, 3))
    record, winds, slipped, standing = [], [], [], list(x)
    for j in range(looks):
        slip = told.choice(points_within(sight[1], told, 2))
        slipped.append(slip)
        record.append(pt(*[a + b for a, b in zip(seen_by(sight, standing), slip)]))
        if j + 1 < looks or wishes:
            u = told.choice(points_within(plant[4], told, 2))
            winds.append(told.choice(points_within(plant[5], told, 2)))
            record.append(pt(*u))
            standing = moved(plant, standing, u, winds[-1])
    return tuple(record), (x, winds, slipped), standing


def trips(told, many):
    """Plants with a sight and a room."""
    found = [(WALK, GLANCE, cube(1, -2, 2)), (WALK, BLINDFOLD, cube(1, -2, 2)), (WALK, ((pt(0),), HALF), cube(1, 1, 1))]
    for _ in range(many):
        plant = some_plant(told, told.choice([1, 1, 2]), told.randint(0, 2), told.randint(0, 2))
        n = len(plant[0])
        found.append((plant, some_sight(told, n), some_bounded(told, n)))
    return found


def unit(size, k):
    return [Fraction(int(j == k)) for j in range(size)]


def parts_of(function, size):
    """What a function of numbers, which is a form and a number, makes of noughts, and its multiple of each one."""
    alone = function([Fraction(0)] * size)
    return alone, [function(unit(size, k)) - alone for k in range(size)]


def weighed(room, point, weights):
    """The sum of weight times what the room's rows make of a point less their bounds."""
    return sum((number(t) * (product_of(a, point) - b) for (a, b), t in zip(room[1], weights)), Fraction(0))


def is_weights(room, value):
    return referees.is_weights(value, len(room[1]))
