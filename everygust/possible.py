"""Where a craft may stand behind a record of looks and wishes, with traces that lead there and tallies of rows."""

from everygust.forms import is_point, is_tuple_of, is_weights
from everygust.fractions import is_less, minus
from everygust.gathered import is_number, weighed
from everygust.records import Thread, first_without, rooms_behind
from everygust.rows import image_of, is_in, next_of
from everygust.solving import greatest_at
from everygust.tableau import Tableau
from everygust.unknowns import asked_of, numbers_told, next_told, unknowns_told, worth_told
from everygust.vectors import divided
from everygust.weights import follows


def possible(plant, sight, room, record):
    """The lean room of the standings that are possible behind a record."""
    return rooms_behind(plant, sight, room, record)[-1]


def _less_look(sight, x, y):
    # The slip by which a standing gives a look.
    seen = image_of(sight[0], x, ((0, 1),) * len(sight[0]))
    return tuple([minus(k, j) for k, j in zip(y, seen)])


def _step_to(plant, room, u, x):
    # A standing of a room and a gust that lead to a standing by a wish.
    n, k = room[0], plant[5][0]
    size = n + k
    before, gust = unknowns_told(size, 0, n), unknowns_told(size, n, k)
    rows = [asked_of(row, before, size)[0] for row in room[1]] + [asked_of(row, gust, size)[0] for row in plant[5][1]]
    for form, number in zip(next_told(plant, before, numbers_told(size, u), gust), x):
        # The form is the number: it is at most that, and at least.
        for row in (((1,), 0), ((-1,), 0)):
            rows.append(asked_of(row, (form[:-1] + (minus(form[-1], number),),), size)[0])
    tableau = Tableau(size, rows)
    tableau.settle()
    numbers, denominator = tableau.spot()
    found = divided(numbers, denominator)
    return (found[:n], found[n:])


def trace_to(plant, sight, room, record, x):
    """A right trace of a record that ends at a standing, None if there is none."""
    rooms = rooms_behind(plant, sight, room, record)
    if not is_in(rooms[-1], x):
        return None
    standing, winds, slipped = x, [], []
    for number in reversed(range(len(record))):
        if number & 1:
            standing, gust = _step_to(plant, rooms[number], record[number], standing)
            winds.append(gust)
        else:
            slipped.append(_less_look(sight, standing, record[number]))
    return (standing, tuple(reversed(winds)), tuple(reversed(slipped)))


def _is_points(value, many, n):
    return is_tuple_of(value, many) and all(is_point(n, one) for one in value)


def _is_trace(plant, sight, record, value):
    if not is_tuple_of(value, 3) or not is_point(len(plant[0]), value[0]):
        return False
    wishes = len(record) // 2
    return _is_points(value[1], wishes, plant[5][0]) and _is_points(value[2], len(record) - wishes, len(sight[0]))


def judge_trace(plant, sight, room, record, x, value):
    """None if a value, which may be anything, is a right trace that ends at a standing; otherwise its first fault."""
    rooms_behind(plant, sight, room, record)
    if not _is_trace(plant, sight, record, value):
        return ("form",)
    standing, winds, slipped = value
    if not is_in(room, standing):
        return ("start",)
    for number, member in enumerate(record):
        j = number // 2
        if number & 1:
            if not is_in(plant[5], winds[j]):
                return ("gust", j)
            standing = next_of(plant, standing, member, winds[j])
        elif not is_in(sight[1], slipped[j]):
            return ("slip", j)
        elif _less_look(sight, standing, member) != slipped[j]:
            return ("look", j)
    return None if standing == x else ("end",)


def tally(plant, sight, room, record, row):
    """A tally that shows that a row holds at all possible standings, None if it doesn't, or if there are none."""
    rooms = rooms_behind(plant, sight, room, record)
    if first_without(rooms) is not None or not follows(rooms[-1], row):
        return None
    thread = Thread(plant, sight, room, record)
    asked = thread.gathered()
    tableau = asked.tableau()
    tableau.settle()
    form = _row_told(thread, row)
    return thread.tally_of(asked.shared(greatest_at(tableau, form[:-1])[3]))


def _row_told(thread, row):
    # What the row makes of the last standing, less its bound.
    form = worth_told(divided(row[0], 1), thread.last, thread.size)
    return form[:-1] + (minus(form[-1], (row[1], 1)),)


def never(plant, sight, room, record):
    """None if some standing is possible; otherwise behind which member there is none, and a tally that shows it."""
    k = first_without(rooms_behind(plant, sight, room, record))
    if k is None:
        return None
    thread = Thread(plant, sight, room, record[:k + 1])
    asked = thread.gathered()
    return (k, thread.tally_of(asked.shared(asked.tableau().settle())))


def _is_tally(thread, value):
    if not is_tuple_of(value, 3) or not all(type(one) is tuple for one in value):
        return False
    looks = len(thread.asked) // 2
    if len(value[1]) != len(thread.asked) - 1 - looks or len(value[2]) != looks:
        return False
    for (room, _), weights in zip(thread.asked, thread.in_order(value)):
        if not is_weights(len(room[1]), weights):
            return False
    return True


def judge_tally(plant, sight, room, record, row, value):
    """None if a value, which may be anything, is a tally for a row, or for no standing if row is None; else a fault."""
    rooms_behind(plant, sight, room, record)
    thread = Thread(plant, sight, room, record)
    if not _is_tally(thread, value):
        return ("form",)
    asked = [(one, point, weights) for (one, point), weights in zip(thread.asked, thread.in_order(value))]
    found, least = weighed(asked, thread.size), (1, 1)
    if row is not None:
        told = _row_told(thread, row)
        found, least = tuple([minus(p, q) for p, q in zip(found, told)]), (0, 1)
    return ("sum",) if not is_number(found) or is_less(found[-1], least) else None
