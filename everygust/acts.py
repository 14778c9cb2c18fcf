"""Acts of a desk: whether they can be done with a sheet and a trip, and what comes of these by them.

A trip is a tuple (plant, walls, goal, left, done, standing), or None.
"""

from everygust.checks import MOST_PARTS, check_sheet
from everygust.errors import BadShape
from everygust.forms import is_number_of, is_point, is_row
from everygust.rows import is_in, next_of, plain_row
from everygust.sheets import with_part, without_part
from everygust.weights import is_bounded, plant_fault

MOST_STEPS = 6
MEMBERS = {"sheet": 2, "put": 2, "drop": 2, "row": 3, "start": 6, "step": 3, "end": 1}
START_SORTS = ("plant", "room", "room", "point")


def value_of(sheet, name):
    """The pair (sort, value) of the part with a name, which may be anything; None if there is none."""
    for sort, told, value in sheet:
        if told == name:
            return (sort, value)
    return None


def naming_word(found, sorts):
    """"name" if one of some pairs that value_of told is None, "sort" if one is not of its sort; otherwise None."""
    if None in found:
        return "name"
    return "sort" if any(pair[0] != sort for pair, sort in zip(found, sorts)) else None


def task_word(plant, rooms, many):
    """The word that bars a plant, rooms of its n and a number of steps, which may be anything; None if none does."""
    if plant_fault(plant) is not None:
        return "plant"
    if not all(is_bounded(room) for room in rooms):
        return "walls"
    return None if is_number_of(many, MOST_STEPS + 1) else "steps"


def is_fitting(plant, rooms):
    """Whether rooms are of a plant's n."""
    return all(room[0] == len(plant[0]) for room in rooms)


def is_point_of(room, value):
    """Whether a value, which may be anything, is a point of a room."""
    return is_point(room[0], value) and is_in(room, value)


def _is_sheet(value):
    try:
        check_sheet(value)
    except BadShape:
        return False
    return True


def _sheet_word(sheet, trip, act):
    return None if _is_sheet(act[1]) else "sheet"


def _put_word(sheet, trip, act):
    if not _is_sheet((act[1],)):
        return "part"
    return "many" if len(sheet) >= MOST_PARTS and value_of(sheet, act[1][1]) is None else None


def _drop_word(sheet, trip, act):
    return "name" if value_of(sheet, act[1]) is None else None


def _row_word(sheet, trip, act):
    found = value_of(sheet, act[1])
    word = naming_word([found], ["room"])
    if word is not None:
        return word
    return None if is_row(found[1][0], act[2]) else "row"


def _start_found(sheet, act):
    return [value_of(sheet, name) for name in act[1:4] + act[5:]]


def _start_word(sheet, trip, act):
    found = _start_found(sheet, act)
    word = naming_word(found, START_SORTS)
    if word is not None:
        return word
    plant, walls, goal, point = [value for _, value in found]
    if not is_fitting(plant, (walls, goal)) or len(point) != len(plant[0]):
        return "fit"
    return task_word(plant, (walls, goal), act[4])


def _step_word(sheet, trip, act):
    if trip is None or trip[3] == 0:
        return "trip"
    if not is_point_of(trip[0][4], act[1]):
        return "wish"
    return None if is_point_of(trip[0][5], act[2]) else "gust"


def _end_word(sheet, trip, act):
    return "trip" if trip is None else None


WORDS = {
    "sheet": _sheet_word,
    "put": _put_word,
    "drop": _drop_word,
    "row": _row_word,
    "start": _start_word,
    "step": _step_word,
    "end": _end_word,
}


def word_against(sheet, trip, act):
    """The word with which an act, which may be anything, cannot be done, None if it can."""
    if type(act) is not tuple or not act or type(act[0]) is not str or MEMBERS.get(act[0]) != len(act):
        return "form"
    action = WORDS[act[0]]
    return action(sheet, trip, act)


def _with_row(sheet, name, row):
    n, rows = value_of(sheet, name)[1]
    return with_part(sheet, ("room", name, (n, rows + (plain_row(row),))))


def _trip_begun(sheet, act):
    plant, walls, goal, point = [value for _, value in _start_found(sheet, act)]
    return (plant, walls, goal, act[4], (), point)


def _trip_behind(trip, wish, gust):
    plant, walls, goal, left, done, standing = trip
    return (plant, walls, goal, left - 1, done + ((standing, wish, gust),), next_of(plant, standing, wish, gust))


def done_by(sheet, trip, act):
    """The pair of the sheet and the trip behind an act that can be done."""
    word = act[0]
    if word == "sheet":
        return (act[1], trip)
    if word == "put":
        return (with_part(sheet, act[1]), trip)
    if word == "drop":
        return (without_part(sheet, act[1]), trip)
    if word == "row":
        return (_with_row(sheet, act[1], act[2]), trip)
    if word == "start":
        return (sheet, _trip_begun(sheet, act))
    return (sheet, _trip_behind(trip, act[1], act[2]) if word == "step" else None)
