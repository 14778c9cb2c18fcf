"""Wishes that are good for all standings of a room: one for one step, or a row of them, all told ahead."""

from everygust.ahead import Ahead
from everygust.forms import is_ascending, is_number_of, is_point, is_share, is_told, is_tuple_of, is_weights
from everygust.fractions import is_less
from everygust.limits import few_lean
from everygust.refusals import refuse_unsound
from everygust.rows import is_in, row_of
from everygust.solving import form_worth


def wishes_for_all(plant, room, target):
    """The lean room of the wishes that are good for all from a room into another one."""
    refuse_unsound((room, target))
    return serving_all(plant, room, target)


def serving_all(plant, room, target):
    """The same where both rooms are known to be sound."""
    ahead = Ahead(plant, room, 1)
    told = [ahead.asked(row, 1) for row in target[1]]
    rows = [row_of(members, bound) for members, bound, _, _ in told]
    return few_lean((plant[4][0], plant[4][1] + tuple(rows)))


def wish_for_all(plant, room, target):
    """A wish that is good for all from a room into another one, or a block."""
    refuse_unsound((room, target))
    ahead = Ahead(plant, room, 1)
    found = ahead.answered([((i,), ahead.asked(row, 1)) for i, row in enumerate(target[1])])
    if found[0] == "wishes":
        return ("wish", found[1])
    parts = tuple([part[:-1] + part[-1] for part in found[1]])
    return ("block", parts, found[2][0])


def is_block(plant, target, parts, nu):
    """Whether two values have the form of the parts of a block for a target and of weights of the wishes."""
    if type(parts) is not tuple or not is_weights(len(plant[4][1]), nu):
        return False
    for part in parts:
        if not is_tuple_of(part, 4) or not is_number_of(part[0], len(target[1])) or not is_share(part[1]):
            return False
        if not is_point(len(plant[0]), part[2]) or not is_point(plant[5][0], part[3]):
            return False
    return is_ascending([part[0] for part in parts])


def stray_standing(room, parts):
    """("standing", k) with the first part of a block whose standing is not in a room, None if there is none."""
    for k, part in enumerate(parts):
        if not is_in(room, part[2]):
            return ("standing", k)
    return None


def stray_gust(plant, parts):
    """("gust", k) with the first part of a block whose gust is none, None if there is none."""
    for k, part in enumerate(parts):
        if not is_in(plant[5], part[3]):
            return ("gust", k)
    return None


def block_sum_fault(plant, room, target, parts, nu):
    """("unknown",) or ("sum",) if a block doesn't add up, otherwise None."""
    told = [(target[1][i], 1, weight, x, (gust,)) for i, weight, x, gust in parts]
    return Ahead(plant, room, 1).sum_fault(told, (nu,))


def judge_for_all(plant, room, target, value):
    """None if a value, which may be anything, is a wish good for all or a block, as told; otherwise its first fault."""
    refuse_unsound((room, target))
    if is_told(value, "wish", 2) and is_point(plant[4][0], value[1]):
        return _wish_fault(plant, room, target, value[1])
    if not is_told(value, "block", 3) or not is_block(plant, target, value[1], value[2]):
        return ("form",)
    fault = stray_standing(room, value[1])
    if fault is None:
        fault = stray_gust(plant, value[1])
    return block_sum_fault(plant, room, target, value[1], value[2]) if fault is None else fault


def _wish_fault(plant, room, target, u):
    if not is_in(plant[4], u):
        return ("wish",)
    ahead = Ahead(plant, room, 1)
    for i, row in enumerate(target[1]):
        if _is_broken(ahead, row, 1, u):
            return ("out", i)
    return None


def _is_broken(ahead, row, j, wishes):
    # Whether some standing and gusts break a row at a step behind wishes, told in one point.
    members, bound, _, _ = ahead.asked(row, j)
    return is_less(bound, form_worth(members, wishes))


def _rows_due(walls, goal, many):
    # The triples (step, number, row) of all rows that a blind row of wishes must keep.
    found = []
    for j in range(many + 1):
        rows = walls[1] + goal[1] if j == many else walls[1]
        found.extend([(j, i, row) for i, row in enumerate(rows)])
    return found


def blind_room(plant, room, walls, goal, many):
    """The lean room of the blind rows of so many wishes, their coordinates behind one another."""
    ahead = Ahead(plant, room, many)
    rows = ahead.wish_rows()
    for j, _, row in _rows_due(walls, goal, many):
        members, bound, _, _ = ahead.asked(row, j)
        rows.append(row_of(members, bound))
    return few_lean((ahead.size, tuple(rows)))


def _in_wishes(m, many, point):
    return tuple([point[j * m:j * m + m] for j in range(many)])


def blind_row(plant, room, walls, goal, many):
    """A blind row of so many wishes, or a blind block."""
    ahead = Ahead(plant, room, many)
    found = ahead.answered([((j, i), ahead.asked(row, j)) for j, i, row in _rows_due(walls, goal, many)])
    if found[0] == "wishes":
        return ("row", _in_wishes(plant[4][0], many, found[1]))
    return found


def _is_winds(k, many, value):
    return is_tuple_of(value, many) and all(is_point(k, gust) for gust in value)


def _is_blind_part(plant, walls, goal, many, value):
    if not is_tuple_of(value, 5) or not is_number_of(value[0], many + 1) or not is_share(value[2]):
        return False
    rows = len(walls[1]) + len(goal[1]) if value[0] == many else len(walls[1])
    if not is_number_of(value[1], rows) or not is_point(len(plant[0]), value[3]):
        return False
    return _is_winds(plant[5][0], value[0], value[4])


def _is_blind_block(plant, walls, goal, many, value):
    _, parts, nu = value
    if type(parts) is not tuple or not all(_is_blind_part(plant, walls, goal, many, part) for part in parts):
        return False
    if not all(one[:2] < other[:2] for one, other in zip(parts, parts[1:])):
        return False
    return is_tuple_of(nu, many) and all(is_weights(len(plant[4][1]), some) for some in nu)


def judge_blind(plant, room, walls, goal, many, value):
    """None if a value, which may be anything, is a blind row or a blind block; otherwise its first fault."""
    ahead = Ahead(plant, room, many)
    m = plant[4][0]
    if is_told(value, "row", 2) and is_tuple_of(value[1], many) and all(is_point(m, wish) for wish in value[1]):
        return _blind_row_fault(ahead, walls, goal, value[1])
    if not is_told(value, "block", 3) or not _is_blind_block(plant, walls, goal, many, value):
        return ("form",)
    _, parts, nu = value
    for k, part in enumerate(parts):
        if not is_in(room, part[3]):
            return ("standing", k)
    for k, part in enumerate(parts):
        for j, gust in enumerate(part[4]):
            if not is_in(plant[5], gust):
                return ("gust", k, j)
    rows = walls[1] + goal[1]
    return ahead.sum_fault([(rows[i], j, weight, x, winds) for j, i, weight, x, winds in parts], nu)


def _blind_row_fault(ahead, walls, goal, wishes):
    for j, wish in enumerate(wishes):
        if not is_in(ahead.plant[4], wish):
            return ("wish", j)
    point = tuple([number for wish in wishes for number in wish])
    for j, i, row in _rows_due(walls, goal, ahead.many):
        if _is_broken(ahead, row, j, point):
            return ("out", j, i)
    return None
