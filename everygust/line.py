"""Plants of one coordinate: the ends of all stretches that can be kept, and the greatest kept one."""

from everygust.forms import is_fraction, is_told, is_weights
from everygust.fractions import highest, is_less, lowest, minus, plus
from everygust.keeping import judge_keep, keep_paper
from everygust.lean import lean
from everygust.papers import added_pair
from everygust.ends import is_pairs
from everygust.rows import boxed, row_of
from everygust.solids import corners_if_any, room_corners
from everygust.solving import form_worth
from everygust.trimming import bare_rows
from everygust.weights import greatest, judge_bare

LEAST = ((-1, 1), (0, 1))
GREATEST = ((0, 1), (1, 1))


def _reached(matrix, room):
    # The least and the greatest number to which a matrix of one line takes the points of a room.
    numbers = [form_worth(matrix[0], corner) for corner in room_corners(room)]
    return (lowest(numbers), highest(numbers))


def ends(plant, walls):
    """The room of the ends of all stretches that are kept within walls."""
    found = [corner[0] for corner in corners_if_any(walls)]
    if not found:
        return (2, bare_rows(2))
    a, still = plant[0][0][0], plant[3][0]
    wished, blown = _reached(plant[1], plant[4]), _reached(plant[2], plant[5])
    p, q = plus(plus(still, blown[0]), wished[1]), plus(plus(still, blown[1]), wished[0])
    zero, one, back_q = (0, 1), (1, 1), minus((0, 1), q)
    told = [
        (((-1, 1), zero), minus(zero, lowest(found))), ((zero, one), highest(found)), ((one, (-1, 1)), zero),
        ((one, (-1, 1)), minus(blown[0], blown[1]))]
    if a[0] >= 0:
        told.extend([((minus(one, a), zero), p), ((zero, minus(a, one)), back_q)])
    else:
        told.extend([((one, minus(zero, a)), p), ((a, (-1, 1)), back_q)])
    return (2, tuple([row_of(members, bound) for members, bound in told]))


def _widest(room):
    # What shows the least and the greatest end that a room of ends has; None if it is bare.
    low = greatest(room, LEAST)
    return None if low[0] == "bare" else (low, greatest(room, GREATEST))


def _stretch(low, high):
    return boxed((low,), (high,))


def kept_stretch(plant, walls):
    """The greatest room that is kept within walls, lean, perhaps bare."""
    found = _widest(ends(plant, walls))
    if found is None:
        return (1, bare_rows(1))
    return lean(_stretch(minus((0, 1), found[0][1]), found[1][1]))


def stretch_paper(plant, walls):
    """A paper that shows the greatest kept stretch, or that there is none."""
    room = ends(plant, walls)
    found = _widest(room)
    if found is None:
        return ("bare", greatest(room, LEAST)[1])
    low, high = minus((0, 1), found[0][1]), found[1][1]
    pairs = keep_paper(plant, walls, _stretch(low, high))[1]
    return ("kept", low, high, pairs, found[0][3], found[1][3])


def _is_kept_form(plant, many, value):
    if not is_told(value, "kept", 6) or not is_fraction(value[1]) or not is_fraction(value[2]):
        return False
    if is_less(value[2], value[1]) or not is_pairs(1, plant[4][0], value[3]):
        return False
    return is_weights(many, value[4]) and is_weights(many, value[5])


def _adds_up(room, weights, form, most):
    found = added_pair(room, weights)
    return found[0] == form and not is_less(most, found[1])


def judge_stretch(plant, walls, value):
    """None if a value, which may be anything, is a paper of the greatest kept stretch; otherwise its first fault."""
    room = ends(plant, walls)
    if is_told(value, "bare", 2) and is_weights(len(room[1]), value[1]):
        return judge_bare(room, value[1])
    if not _is_kept_form(plant, len(room[1]), value):
        return ("form",)
    _, low, high, pairs, lows, highs = value
    fault = judge_keep(plant, walls, _stretch(low, high), ("kept", pairs))
    if fault is not None:
        return fault
    if not _adds_up(room, lows, LEAST, minus((0, 1), low)):
        return ("low",)
    return None if _adds_up(room, highs, GREATEST, high) else ("high",)
