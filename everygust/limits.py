"""How great rooms may be, and what refuses greater ones."""

from everygust.errors import TooGreat, Unbounded
from everygust.lean import lean
from everygust.settled import settled, way_of

MOST_ROWS = 80
MOST_CORNERS = 300


def few_lean(room):
    """The lean form of a room; refuses one of too many rows."""
    found = lean(room)
    if len(found[1]) > MOST_ROWS:
        raise TooGreat()
    return found


def bounded_tableau(room):
    """A tableau at a point of a room, None if it is bare; refuses a room that is not bounded."""
    tableau = settled(room)
    if tableau is not None and way_of(tableau) is not None:
        raise Unbounded()
    return tableau
