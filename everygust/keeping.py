"""Rooms in which a craft can be kept for ever: layers from without, grown rooms from within, and papers."""

from everygust.backing import Backing, Pairs
from everygust.demands import Demands
from everygust.ends import is_pairs, leading_fault, telling_fault
from everygust.forms import is_number_of, is_point, is_told
from everygust.lean import lean
from everygust.limits import few_lean
from everygust.rowpapers import is_bar
from everygust.rows import first_broken, is_in, slack
from everygust.solids import corners_if_any
from everygust.weights import is_bare
from everygust.wishes import bar, good_wish, judge_bar


def keep_fault(plant, walls, room):
    """None if a room is kept within walls; otherwise its least corner beyond them, or from which it can't be kept."""
    corners = corners_if_any(room)
    for corner in corners:
        if not is_in(walls, corner):
            return ("wall", corner)
    demands = Demands(plant, room)
    for corner in corners:
        if good_wish(demands, corner) is None:
            return ("lost", corner)
    return None


def keep_paper(plant, walls, room):
    """A keep paper for a room and walls."""
    demands, pairs = Demands(plant, room), []
    for corner in corners_if_any(room):
        number = first_broken(walls, corner)
        if number is not None:
            return ("wall", corner, number)
        wish = good_wish(demands, corner)
        if wish is None:
            return ("lost", corner, bar(plant, room, corner))
        pairs.append((corner, wish))
    return ("kept", tuple(pairs))


def _is_keep_form(plant, walls, room, value):
    n = room[0]
    if is_told(value, "kept", 2):
        return is_pairs(n, plant[4][0], value[1])
    if is_told(value, "wall", 3):
        return is_point(n, value[1]) and is_number_of(value[2], len(walls[1]))
    return is_told(value, "lost", 3) and is_point(n, value[1]) and is_bar(plant, len(room[1]), value[2])


def judge_keep(plant, walls, room, value):
    """None if a value, which may be anything, is a keep paper for a room and walls; otherwise its first fault."""
    if not _is_keep_form(plant, walls, room, value):
        return ("form",)
    if value[0] == "kept":
        fault = telling_fault(corners_if_any(room), value[1])
        return fault if fault is not None else leading_fault(plant, walls, room, value[1], "out")
    _, x, shown = value
    if not is_in(room, x):
        return ("standing",)
    if value[0] == "lost":
        return judge_bar(plant, room, x, shown)
    return ("row",) if slack(walls[1][shown], x)[0] >= 0 else None


def _led_into(plant, walls, below):
    # The standings of the walls from which some wish leads into a room below, lean.
    return Backing(Pairs(plant, walls, below)).room()


def layers(plant, walls, most):
    """The pair of a word and the layers: up to a bare one, to where the peeling has closed, or up to number most."""
    return peeled(walls, most, lambda below: _led_into(plant, walls, below))


def peeled(walls, most, step):
    """The pair of a word and the rooms, walls first, each of which a step makes of the one ahead, as for layers."""
    found = [few_lean(walls)]
    for _ in range(most):
        if is_bare(found[-1]):
            break
        behind = step(found[-1])
        if behind == found[-1]:
            return ("closed", tuple(found))
        found.append(behind)
    return ("bare" if is_bare(found[-1]) else "open", tuple(found))


def _first_without(rooms, x):
    for i, room in enumerate(rooms):
        if not is_in(room, x):
            return i
    return None


def lost_at(plant, walls, most, x):
    """The least number of at most most whose layer has not a standing, None if all have it."""
    # Behind the last layer that is told none is otherwise; a bare one has no standing.
    return _first_without(layers(plant, walls, most)[1], x)


def grown(plant, walls, room, most):
    """The pair of a word and the rooms grown from a kept room: up to where they have closed, or up to number most."""
    found = [lean(room)]
    for _ in range(most):
        behind = _led_into(plant, walls, found[-1])
        if behind == found[-1]:
            return ("closed", tuple(found))
        found.append(behind)
    return ("open", tuple(found))


def sure_of(plant, walls, room, most, x):
    """Whether a standing is within a grown room, or beyond a layer, with the least such number; or neither is told."""
    risen = grown(plant, walls, room, most)[1]
    lost = lost_at(plant, walls, most, x)
    for i, one in enumerate(risen):
        if is_in(one, x):
            return ("kept", i)
    return ("open",) if lost is None else ("lost", lost)
