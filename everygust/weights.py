"""Weights of rows: what they add up to, and what they show of rooms; each paper has its judge."""

from everygust.forms import is_fraction, is_point, is_told, is_tuple_of
from everygust.fractions import floor_of, is_less, over, plus, times
from everygust.papers import added_pair, adding_fault, growing_row
from everygust.rows import first_broken, is_in, reach, slack
from everygust.settled import settled, way_of
from everygust.solving import form_worth, greatest_at, greatest_of
from everygust.tableau import Tableau
from everygust.vectors import divided, unit


def worth(form, point):
    """The worth of a form at a point."""
    return form_worth(form, point)


def added_up(room, weights):
    """The pair (form, bound) that weights of a room add up to."""
    return added_pair(room, weights)


def is_bare(room):
    """Whether a room has no point."""
    return settled(room) is None


def bare_paper(room):
    """A bare paper of a room, None if it has points."""
    return Tableau(room[0], room[1]).settle()


def judge_bare(room, value):
    """None if a value, which may be anything, is a bare paper; otherwise its first fault."""
    if not is_point(len(room[1]), value):
        return ("form",)
    fault = adding_fault(room, value, ((0, 1),) * room[0])
    if fault is not None:
        return fault
    return ("bound",) if is_less((-1, 1), added_pair(room, value)[1]) else None


def _is_bare_told(room, value):
    return is_told(value, "bare", 2) and is_point(len(room[1]), value[1])


def greatest(room, form):
    """An answer to what the greatest worth of a form in a room is."""
    return greatest_of(room[0], room[1], form)


def judge_greatest(room, form, value):
    """None if a value, which may be anything, is such an answer; otherwise its first fault."""
    n, many = room[0], len(room[1])
    if _is_bare_told(room, value):
        return judge_bare(room, value[1])
    if is_told(value, "far", 3) and is_point(n, value[1]) and is_point(n, value[2]):
        return _far_fault(room, form, value[1], value[2])
    if is_told(value, "most", 4) and is_fraction(value[1]) and is_point(n, value[2]) and is_point(many, value[3]):
        return _most_fault(room, form, value)
    return ("form",)


def _row_fault(room, point):
    k = first_broken(room, point)
    return None if k is None else ("row", k)


def _way_fault(room, point, way):
    fault = _row_fault(room, point)
    if fault is not None:
        return fault
    k = growing_row(room, way)
    return None if k is None else ("way", k)


def _far_fault(room, form, point, way):
    fault = _way_fault(room, point, way)
    if fault is not None:
        return fault
    return None if form_worth(form, way)[0] > 0 else ("worth",)


def _most_fault(room, form, value):
    _, told, point, weights = value
    fault = _row_fault(room, point)
    if fault is not None:
        return fault
    if form_worth(form, point) != told:
        return ("worth",)
    fault = adding_fault(room, weights, form)
    if fault is not None:
        return fault
    return None if added_pair(room, weights)[1] == told else ("bound",)


def follows(room, row):
    """Whether a row follows from a room."""
    return following_paper(room, row)[0] != "point"


def _beyond(row, point, way):
    # The point or, as the row's form grows along the way, the first one so many whole ways on that breaks the row.
    steps = max(0, floor_of(over(slack(row, point), reach(row, way))) + 1)
    return tuple([plus(x, times((steps, 1), w)) for x, w in zip(point, way)])


def _following_at(tableau, row):
    # A following paper for a tableau that stands at a point of its room.
    answer = greatest_at(tableau, divided(row[0], 1))
    if answer[0] == "far":
        return ("point", _beyond(row, answer[1], answer[2]))
    _, value, point, weights = answer
    return ("point", point) if is_less((row[1], 1), value) else ("weights", weights)


def following_paper(room, row):
    """A paper that shows whether a row follows from a room."""
    tableau = Tableau(room[0], room[1])
    bare = tableau.settle()
    return ("bare", bare) if bare is not None else _following_at(tableau, row)


def _following_fault(room, row, weights):
    fault = adding_fault(room, weights, divided(row[0], 1))
    if fault is not None:
        return fault
    return ("bound",) if is_less((row[1], 1), added_pair(room, weights)[1]) else None


def judge_following(room, row, value):
    """None if a value, which may be anything, is a following paper; otherwise its first fault."""
    if _is_bare_told(room, value):
        return judge_bare(room, value[1])
    if is_told(value, "weights", 2) and is_point(len(room[1]), value[1]):
        return _following_fault(room, row, value[1])
    if is_told(value, "point", 2) and is_point(room[0], value[1]):
        fault = _row_fault(room, value[1])
        if fault is not None:
            return fault
        return ("within",) if slack(row, value[1])[0] >= 0 else None
    return ("form",)


def is_bounded(room):
    """Whether a room is bounded."""
    tableau = settled(room)
    return tableau is None or way_of(tableau) is None


def bound_paper(room):
    """A paper that shows whether a room is bounded."""
    tableau = Tableau(room[0], room[1])
    bare = tableau.settle()
    if bare is not None:
        return ("bare", bare)
    pairs = []
    for k in range(room[0]):
        pair = []
        for end in (-1, 1):
            answer = greatest_at(tableau, divided(unit(room[0], k, end), 1))
            if answer[0] == "far":
                return ("way", answer[1], answer[2])
            pair.append(answer[3])
        pairs.append(tuple(pair))
    return ("box", tuple(pairs))


def _is_box(room, value):
    if not is_tuple_of(value, room[0]):
        return False
    for pair in value:
        if not is_tuple_of(pair, 2) or not all(is_point(len(room[1]), weights) for weights in pair):
            return False
    return True


def _box_fault(room, pairs):
    for k, pair in enumerate(pairs):
        for end, weights in enumerate(pair):
            form = unit(room[0], k, 2 * end - 1)
            fault = adding_fault(room, weights, divided(form, 1))
            if fault is not None:
                return (fault[0], k, end, fault[1])
    return None


def judge_bound(room, value):
    """None if a value, which may be anything, is a bound paper; otherwise its first fault."""
    if _is_bare_told(room, value):
        return judge_bare(room, value[1])
    if is_told(value, "box", 2) and _is_box(room, value[1]):
        return _box_fault(room, value[1])
    if is_told(value, "way", 3) and is_point(room[0], value[1]) and is_point(room[0], value[2]):
        fault = _way_fault(room, value[1], value[2])
        if fault is not None:
            return fault
        return None if any(k[0] for k in value[2]) else ("still",)
    return ("form",)


def is_inside(room, other):
    """Whether each point of a room is one of the other room."""
    return inside_paper(room, other)[0] != "point"


def inside_paper(room, other):
    """A paper that shows whether a room is inside the other one."""
    tableau = Tableau(room[0], room[1])
    bare = tableau.settle()
    if bare is not None:
        return ("bare", bare)
    some = []
    for row in other[1]:
        paper = _following_at(tableau, row)
        if paper[0] == "point":
            return paper
        some.append(paper[1])
    return ("rows", tuple(some))


def _is_for_rows(room, other, value):
    return is_tuple_of(value, len(other[1])) and all(is_point(len(room[1]), weights) for weights in value)


def _rows_fault(room, other, some):
    for k, (row, weights) in enumerate(zip(other[1], some)):
        fault = _following_fault(room, row, weights)
        if fault is not None:
            return (fault[0], k) + fault[1:]
    return None


def judge_inside(room, other, value):
    """None if a value, which may be anything, is an inside paper; otherwise its first fault."""
    if _is_bare_told(room, value):
        return judge_bare(room, value[1])
    if is_told(value, "rows", 2) and _is_for_rows(room, other, value[1]):
        return _rows_fault(room, other, value[1])
    if is_told(value, "point", 2) and is_point(room[0], value[1]):
        fault = _row_fault(room, value[1])
        if fault is not None:
            return fault
        return ("within",) if is_in(other, value[1]) else None
    return ("form",)


def are_alike(room, other):
    """Whether two rooms have the same points."""
    return is_inside(room, other) and is_inside(other, room)


def plant_fault(plant):
    """None if a plant is right, otherwise the first of its two rooms that is not as it must be, with a paper."""
    for word, room in zip(("wishes", "gusts"), plant[4:]):
        paper = bound_paper(room)
        if paper[0] != "box":
            return (word, paper)
    return None
