"""Runs of a helm against a foe, and the histories that they leave."""

from everygust.errors import BadGust, BadWish
from everygust.forms import is_point, is_tuple_of
from everygust.rows import is_in, next_of


def _is_point_of(room, value):
    # Whether a value, which may be anything, is a point of a room.
    return is_point(room[0], value) and is_in(room, value)


def run(plant, x, left, helm, foe):
    """The history of a run from a standing with so many steps left."""
    found, standing = [], x
    for step in range(left):
        wish = helm.tell(left - step, standing)
        if not _is_point_of(plant[4], wish):
            raise BadWish(step)
        gust = foe.blow(left - step, standing, wish)
        if not _is_point_of(plant[5], gust):
            raise BadGust(step)
        found.append((standing, wish, gust))
        standing = next_of(plant, standing, wish, gust)
    return tuple(found) + ((standing,),)


def _is_history(plant, value):
    n, m, k = len(plant[0]), plant[4][0], plant[5][0]
    if type(value) is not tuple or not value or not is_tuple_of(value[-1], 1) or not is_point(n, value[-1][0]):
        return False
    for step in value[:-1]:
        if not is_tuple_of(step, 3) or not is_point(n, step[0]):
            return False
        if not is_point(m, step[1]) or not is_point(k, step[2]):
            return False
    return True


def _steps_fault(plant, history):
    for step, ((x, wish, gust), behind) in enumerate(zip(history, history[1:])):
        if not is_in(plant[4], wish):
            return ("wish", step)
        if not is_in(plant[5], gust):
            return ("gust", step)
        if next_of(plant, x, wish, gust) != behind[0]:
            return ("step", step)
    return None


def judge_history(plant, walls, goal, value):
    """None if a value, which may be anything, is a history of a plant that is the helm's; otherwise its first fault."""
    if not _is_history(plant, value):
        return ("form",)
    fault = _steps_fault(plant, value)
    if fault is None:
        told = outcome(walls, goal, value)
        fault = None if told == ("kept",) else told
    return fault


def outcome(walls, goal, history):
    """Whether a history is the helm's by its standings, and by which standing it isn't."""
    for number, step in enumerate(history):
        if not is_in(walls, step[0]):
            return ("wall", number)
    return ("kept",) if is_in(goal, history[-1][0]) else ("goal",)
