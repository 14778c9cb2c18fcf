"""Pairs of a corner and a wish: whether they tell all corners of a room, and lead them into a room."""

from everygust.demands import first_out
from everygust.forms import is_point, is_tuple_of
from everygust.rows import is_in
from everygust.solids import is_ahead, room_corners


def is_pairs(n, m, value):
    """Whether a value is a tuple of pairs of a point of n and one of m."""
    if type(value) is not tuple:
        return False
    for pair in value:
        if not is_tuple_of(pair, 2) or not is_point(n, pair[0]) or not is_point(m, pair[1]):
            return False
    return True


def telling_fault(corners, pairs):
    """The first corner of some, ascending, that no pair tells, or the first pair that is none, or out of order."""
    told = {corner: True for corner, _ in pairs}
    for corner in corners:
        if corner not in told:
            return ("lacks", corner)
    for i, (corner, _) in enumerate(pairs):
        if corner not in corners or i and not is_ahead(pairs[i - 1][0], corner):
            return ("spare", i)
    return None


def leading_fault(plant, walls, below, pairs, word):
    """The first pair whose corner is beyond the walls, whose wish is none, or that, by the word, leads out below."""
    gusts = room_corners(plant[5])
    for i, (corner, wish) in enumerate(pairs):
        if not is_in(walls, corner):
            return ("wall", i)
        if not is_in(plant[4], wish):
            return ("wish", i)
        gust = first_out(plant, gusts, corner, wish, below)
        if gust is not None:
            return (word, i, gust)
    return None
