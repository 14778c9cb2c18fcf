"""Checks of values that may be anything: each raises BadShape with the path of the first wrong part."""

from everygust.errors import BadShape
from everygust.shapes import (
    any_tuple_at, fraction_at, matrix_at, point_at, room_at, room_of_at, row_at, some_tuple_at, told_matrix_at,
    tuple_at, whole_at, wholes_at)

LETTERS = "abcdefghijklmnopqrstuvwxyz"
NAME_SIGNS = "abcdefghijklmnopqrstuvwxyz0123456789"
RESERVED = (
    "sheet", "room", "point", "plant", "sight", "cost", "lot", "table", "piece", "state", "helm", "gust", "still",
    "wishes", "gusts", "see", "slips", "step", "end")
MOST_PARTS = 30
MOST_COORDINATES = 6


def check_fraction(value):
    """A fraction."""
    fraction_at(value, ())


def check_point(n, value):
    """A point of n."""
    point_at(n, value, ())


def check_row(n, value):
    """A row of n."""
    row_at(n, value, ())


def _room_at(value, path):
    room_at(value, path)


def check_room(value):
    """A room."""
    _room_at(value, ())


def check_matrix(r, c, value):
    """A matrix of r and c."""
    matrix_at(r, c, value, ())


def _plant_at(value, path):
    tuple_at(value, 6, path)
    some_tuple_at(value[0], 1, MOST_COORDINATES, path + (0,))
    n = len(value[0])
    matrix_at(n, n, value[0], path + (0,))
    m = told_matrix_at(n, value[1], path + (1,))
    k = told_matrix_at(n, value[2], path + (2,))
    point_at(n, value[3], path + (3,))
    room_of_at(m, value[4], path + (4,))
    room_of_at(k, value[5], path + (5,))


def check_plant(value):
    """A plant, right or not."""
    _plant_at(value, ())


def _sight_at(value, path):
    tuple_at(value, 2, path)
    some_tuple_at(value[0], 0, MOST_COORDINATES, path + (0,))
    s = len(value[0])
    if s:
        told_matrix_at(s, value[0], path + (0,))
    room_of_at(s, value[1], path + (1,))


def check_sight(value):
    """A sight, right or not."""
    _sight_at(value, ())


def _at_least_one(value, path):
    any_tuple_at(value, path)
    if not value:
        raise BadShape(path)


def _step_at(told, value, path):
    # What is told so far of n and m stands in told; the first step fills it.
    tuple_at(value, 3, path)
    for k in range(2):
        if len(told) == k:
            some_tuple_at(value[k], 0, MOST_COORDINATES, path + (k,))
            told.append(len(value[k]))
        wholes_at(value[k], told[k], path + (k,))
    whole_at(value[2], path + (2,))


def _cost_at(value, path):
    tuple_at(value, 2, path)
    _at_least_one(value[0], path + (0,))
    told = []
    for k, step in enumerate(value[0]):
        _step_at(told, step, path + (0, k))
    _at_least_one(value[1], path + (1,))
    for k, pair in enumerate(value[1]):
        row_at(told[0], pair, path + (1, k))


def check_cost(value):
    """A cost."""
    _cost_at(value, ())


def _lot_at(value, path):
    any_tuple_at(value, path)
    for k, room in enumerate(value):
        if k == 0:
            room_at(room, path + (0,))
        else:
            room_of_at(value[0][0], room, path + (k,))


def check_lot(value):
    """A lot."""
    _lot_at(value, ())


def _piece_at(told, value, path):
    # As in a cost, the first piece tells n and m.
    tuple_at(value, 3, path)
    if told:
        room_of_at(told[0], value[0], path + (0,))
    else:
        told.append(room_at(value[0], path + (0,)))
        some_tuple_at(value[1], 0, MOST_COORDINATES, path + (1,))
        told.append(len(value[1]))
    matrix_at(told[1], told[0], value[1], path + (1,))
    point_at(told[1], value[2], path + (2,))


def _table_at(value, path):
    any_tuple_at(value, path)
    told = []
    for k, piece in enumerate(value):
        _piece_at(told, piece, path + (k,))


def check_table(value):
    """A table."""
    _table_at(value, ())


def _few_point_at(value, path):
    some_tuple_at(value, 0, MOST_COORDINATES, path)
    point_at(len(value), value, path)


VALUE_CHECKS = {
    "room": _room_at,
    "point": _few_point_at,
    "plant": _plant_at,
    "sight": _sight_at,
    "cost": _cost_at,
    "lot": _lot_at,
    "table": _table_at,
}


def check_sheet(value):
    """A sheet."""
    some_tuple_at(value, 0, MOST_PARTS, ())
    taken = {}
    for k, part in enumerate(value):
        tuple_at(part, 3, (k,))
        sort, name, told = part
        if type(sort) is not str or sort not in VALUE_CHECKS:
            raise BadShape((k, 0))
        if not is_name(name) or name in taken:
            raise BadShape((k, 1))
        taken[name] = True
        check = VALUE_CHECKS[sort]
        check(told, (k, 2))


def is_name(value):
    """Whether a value, which may be anything, is a name."""
    if type(value) is not str or not 1 <= len(value) <= 12 or value in RESERVED:
        return False
    return value[0] in LETTERS and all(sign in NAME_SIGNS for sign in value)
