"""What is asked of a sheet and a trip: the words that bar a question, and its answer."""

from everygust.acts import is_fitting, is_point_of, naming_word, task_word, value_of
from everygust.corners import corners
from everygust.errors import BadAsk
from everygust.keeping import layers
from everygust.prices import price_levels, worth
from everygust.rows import is_in
from everygust.steps import leads_out
from everygust.trimming import bare_rows
from everygust.weights import is_bare, is_bounded, is_inside
from everygust.wishes import good_wishes


def _refuse(word):
    if word is not None:
        raise BadAsk(word)


def _named(sheet, names, sorts):
    # The values of the parts with some names, which may be anything.
    found = [value_of(sheet, name) for name in names]
    _refuse(naming_word(found, sorts))
    return [value for _, value in found]


def corners_asked(sheet, name):
    """The corners of a room."""
    room = _named(sheet, (name,), ("room",))[0]
    if is_bare(room):
        raise BadAsk("bare")
    if not is_bounded(room):
        raise BadAsk("far")
    return corners(room)


def inside_asked(sheet, name, other):
    """Whether a room lies inside another one."""
    one, two = _named(sheet, (name, other), ("room", "room"))
    if one[0] != two[0]:
        raise BadAsk("fit")
    return is_inside(one, two)


def task_asked(sheet, names, many):
    """The plant and the rooms with some names, if a number of steps can be asked of them."""
    found = _named(sheet, names, ("plant", "room", "room")[:len(names)])
    plant, rooms = found[0], found[1:]
    if not is_fitting(plant, rooms):
        raise BadAsk("fit")
    _refuse(task_word(plant, rooms, many))
    return tuple(found)


def kept_asked(sheet, plant, walls, most):
    """The word of the peeling, and the number of the last layer that is told."""
    found = task_asked(sheet, (plant, walls), most)
    word, rooms = layers(found[0], found[1], most)
    return (word, len(rooms) - 1)


def trip_asked(trip):
    """The trip, if there is one."""
    if trip is None:
        raise BadAsk("trip")
    return trip


def led_asked(tasks, trip):
    """Whether the standing of a trip is led."""
    task, left = trip[:3], trip[3]
    found = is_in(tasks.level(task, left), trip[5])
    tasks.answered(task, left)
    return found


def wishes_asked(tasks, trip):
    """The lean room of the wishes that lead the standing of a trip within the walls and on."""
    plant, walls, _, left, _, standing = trip
    found = (plant[4][0], bare_rows(plant[4][0]))
    if left:
        below = tasks.level(trip[:3], left - 1)
        if is_in(walls, standing):
            found = good_wishes(plant, below, standing)
        tasks.answered(trip[:3], left - 1)
    return found


def answer_asked(tasks, trip, wish):
    """The gust that answers a wish, which may be anything, None if none does."""
    plant, left = trip[0], trip[3]
    if left == 0:
        raise BadAsk("steps")
    if not is_point_of(plant[4], wish):
        raise BadAsk("wish")
    found = leads_out(plant, trip[5], wish, tasks.level(trip[:3], left - 1))
    tasks.answered(trip[:3], left - 1)
    return found


def price_asked(sheet, trip, name):
    """The least price that is sure from the standing of a trip, None if it is not led."""
    cost = _named(sheet, (name,), ("cost",))[0]
    plant, walls, goal, left, _, standing = trip_asked(trip)
    by_standing, by_wish, _ = cost[0][0]
    if len(by_standing) != len(plant[0]) or len(by_wish) != plant[4][0]:
        raise BadAsk("fit")
    return worth(price_levels(plant, walls, goal, cost, left)[left], standing)
