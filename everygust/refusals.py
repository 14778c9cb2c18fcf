"""What refuses rooms that have no points, or are not bounded, where both are asked for."""

from everygust.errors import Bare
from everygust.limits import bounded_tableau


def sound_tableau(room):
    """A tableau at a point of a room; refuses a room without points, and then one that is not bounded."""
    tableau = bounded_tableau(room)
    if tableau is None:
        raise Bare()
    return tableau


def refuse_unsound(rooms):
    """Refuses the first of some rooms that has no points or is not bounded."""
    for room in rooms:
        sound_tableau(room)
