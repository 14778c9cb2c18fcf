"""Acts to try at desks, and how they are told a second time."""

from fractions import Fraction

from everygust.checks import check_row, check_sheet
from everygust.errors import BadShape
from tests import referees
from tests.helpers import ODD, corners_by_trying, cube, is_within, numbers, pt
from tests.plants import DRIFT, SLIDE, STILL, from_numbers, moved, points_within
from tests.test_lots import rough
from tests.test_prices import EFFORT
from tests.test_steps import never

FAR = (1, (((1,), 5),))
WRONG = DRIFT[:4] + (never(1), DRIFT[5])
LOOSE = DRIFT[:5] + ((1, ()),)
PARTS = (
    ("plant", "drift", DRIFT), ("plant", "slide", SLIDE), ("plant", "held", STILL), ("plant", "wrong", WRONG),
    ("plant", "loose", LOOSE), ("room", "walls", rough(-6, 6)), ("room", "goal", rough(-1, 1)), ("room", "far", FAR),
    ("room", "none", never(1)), ("room", "box", cube(2, -3, 3)), ("room", "small", cube(2)), ("point", "x", pt(2)),
    ("point", "y", pt(4)), ("point", "z", pt(0, 1)), ("cost", "effort", EFFORT),
    ("cost", "flat", ((((0, 0), (), 1),), (((0, 0), 0),))), ("sight", "eye", ((pt(1),), rough(0, 1))),
    ("lot", "lots", ()),
    ("table", "told", ()))


def is_sheet(value):
    try:
        check_sheet(value)
    except BadShape:
        return False
    return True


def is_row(n, value):
    try:
        check_row(n, value)
    except BadShape:
        return False
    return True


def found_in(sheet, name):
    return next(((sort, value) for sort, told, value in sheet if type(name) is str and told == name), None)


def is_bounded_by_trying(room):
    """Whether a room has no way, if it has points: no corner of a great box is one of it."""
    n, most = room[0], 10 ** 6
    inside = corners_by_trying((n, room[1] + cube(n, -most, most)[1]))
    return not any(abs(k) == most for x in inside for k in x)


def is_right(plant):
    return all(corners_by_trying(room) and is_bounded_by_trying(room) for room in plant[4:])


def is_steps(value):
    return type(value) is int and 0 <= value <= 6


def is_point_in(room, value):
    return referees.is_list_of(value, room[0]) and is_within(room, numbers(value))


def word_due(sheet, trip, act):
    """The word of an act, told by lists of all that bars it in their order."""
    sizes = {"sheet": 2, "put": 2, "drop": 2, "row": 3, "start": 6, "step": 3, "end": 1}
    if type(act) is not tuple or not act or type(act[0]) is not str or sizes.get(act[0]) != len(act):
        return "form"
    word = act[0]
    if word == "sheet":
        return None if is_sheet(act[1]) else "sheet"
    if word == "put":
        if not is_sheet((act[1],)):
            return "part"
        return "many" if len(sheet) == 30 and found_in(sheet, act[1][1]) is None else None
    if word == "drop":
        return "name" if found_in(sheet, act[1]) is None else None
    if word == "row":
        part = found_in(sheet, act[1])
        if part is None:
            return "name"
        if part[0] != "room":
            return "sort"
        return None if is_row(part[1][0], act[2]) else "row"
    if word == "start":
        parts = [found_in(sheet, name) for name in (act[1], act[2], act[3], act[5])]
        if None in parts:
            return "name"
        if [sort for sort, _ in parts] != ["plant", "room", "room", "point"]:
            return "sort"
        plant, walls, goal, point = [value for _, value in parts]
        if len({len(plant[0]), walls[0], goal[0], len(point)}) > 1:
            return "fit"
        if not is_right(plant):
            return "plant"
        if not is_bounded_by_trying(walls) or not is_bounded_by_trying(goal):
            return "walls"
        return None if is_steps(act[4]) else "steps"
    if word == "step":
        if trip is None or not trip[3]:
            return "trip"
        if not is_point_in(trip[0][4], act[1]):
            return "wish"
        return None if is_point_in(trip[0][5], act[2]) else "gust"
    return "trip" if trip is None else None


def behind(sheet, trip, act):
    """The sheet and the trip behind an act that can be done."""
    word = act[0]
    if word == "sheet":
        return act[1], trip
    if word in ("put", "row"):
        part = act[1]
        if word == "row":
            n, rows = found_in(sheet, act[1])[1]
            part = ("room", act[1], (n, rows + (plain(act[2]),)))
        names = [told for _, told, _ in sheet]
        if part[1] in names:
            k = names.index(part[1])
            return sheet[:k] + (part,) + sheet[k + 1:], trip
        return sheet + (part,), trip
    if word == "drop":
        return tuple(part for part in sheet if part[1] != act[1]), trip
    if word == "start":
        plant, walls, goal, point = [found_in(sheet, name)[1] for name in (act[1], act[2], act[3], act[5])]
        return sheet, (plant, walls, goal, act[4], (), point)
    if word == "end":
        return sheet, None
    plant, walls, goal, left, done, x = trip
    there = from_numbers(moved(plant, numbers(x), numbers(act[1]), numbers(act[2])))
    return sheet, (plant, walls, goal, left - 1, done + ((x, act[1], act[2]),), there)


def plain(row):
    a, b = row
    if not any(a):
        return (a, 0 if b >= 0 else -1)
    shared = 0
    for k in a + (b,):
        shared, k = abs(k), abs(shared)
        while k:
            shared, k = k, shared % k
    return (tuple(k // shared for k in a), b // shared)


def some_act(told, sheet, trip):
    """An act that may be right or not."""
    kind = told.random()
    names = [name for _, name, _ in sheet] + ["walls", "nobody", "room", 7, None]
    if kind < 0.3:
        return ("put", told.choice(PARTS))
    if kind < 0.36:
        return ("drop", told.choice(names))
    if kind < 0.46:
        n = told.choice([1, 1, 2])
        return ("row", told.choice(names), (tuple(told.randint(-2, 2) for _ in range(n)), told.randint(0, 9)))
    if kind < 0.5:
        return ("sheet", PARTS[:told.randint(0, len(PARTS))])
    if kind < 0.7:
        if told.random() < 0.7:
            return ("start", "drift", "walls", "goal", told.randint(0, 3), told.choice(["x", "y"]))
        return ("start", told.choice(["drift", "slide", "held", "wrong", "loose", "walls", "nobody"]),
            told.choice(["walls", "box", "far", "none"]),
                told.choice(["goal", "small", "far", "x"]), told.choice([0, 2, 6, 7, -1, True, "2"]),
                told.choice(["x", "y", "z", "goal"]))
    if kind < 0.88:
        plant = trip[0] if trip else DRIFT
        wish, gust = [from_numbers(told.choice(points_within(room, told, 2))) for room in plant[4:]]
        if told.random() < 0.4:
            wish = told.choice([wish + wish, (), pt(9), "1", (Fraction(1),)])
        if told.random() < 0.2:
            gust = told.choice([gust + gust, (), pt(9), "1"])
        return ("step", wish, gust)
    if kind < 0.92:
        return ("end",)
    return told.choice([told.choice(ODD), ("put", told.choice(ODD)), ("sheet", told.choice(ODD)), ("put",), ("end", 1),
        ["end"], ("stop",),
                        ("put", ("room", "sheet", rough(0, 1))), ("row", "walls", ((1, 2), 3)),
                        ("row", "walls", [(1,), 2])])
