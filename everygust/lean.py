"""Equations, sides and the lean form of a room, and its rows less the needless ones."""

from everygust.errors import Bare
from everygust.settled import settled
from everygust.tableau import Tableau
from everygust.trimming import bare_rows, made_less_by, needed_numbers, trimmed


def _trimmed_or_bare(room):
    found = trimmed(room)
    if found is None:
        raise Bare()
    return found


def equations(room):
    """The base of a room's equations."""
    return _trimmed_or_bare(room).base


def made_0(base, row):
    """What a row is made by a base."""
    return made_less_by(base, row)


def sides(room):
    """The ascending list of a room's sides."""
    return _trimmed_or_bare(room).sides


def lean(room):
    """The lean form of a room."""
    found = trimmed(room)
    rows = bare_rows(room[0]) if found is None else tuple(found.rows())
    return (room[0], rows)


def is_lean(room):
    """Whether a room is its own lean form."""
    return lean(room) == room


def needed(room):
    """The ascending list of the numbers of the rows that stay when needless ones go, from the last one on."""
    tableau = settled(room)
    if tableau is None:
        return _needed_if_bare(room)
    return needed_numbers(tableau, list(reversed(range(len(room[1])))))


def _needed_if_bare(room):
    # From rows that no point keeps each row follows; from rows that some points keep none that bars all of these.
    n, rows = room
    stay = list(range(len(rows)))
    used = _used(n, rows, stay)
    for number in reversed(range(len(rows))):
        rest = [k for k in stay if k != number]
        if number not in used:
            stay = rest
            continue
        others = _used(n, rows, rest)
        if others is not None:
            stay, used = rest, others
    return stay


def _used(n, rows, numbers):
    # The numbers that a bare paper of these rows uses; None if they have points.
    bare = Tableau(n, [rows[k] for k in numbers]).settle()
    if bare is None:
        return None
    return [k for k, weight in zip(numbers, bare) if weight[0]]


def thinned(room):
    """The room of the needed rows."""
    return (room[0], tuple([room[1][k] for k in needed(room)]))
