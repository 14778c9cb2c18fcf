"""Lots: finitely many rooms, whose points are those of any of them."""

from everygust.covers import Cover
from everygust.cuts import volume
from everygust.errors import TooGreat, Unbounded
from everygust.forms import is_number_of, is_point, is_row, is_told, is_tuple_of, is_weights
from everygust.fractions import is_less, total
from everygust.hulls import hull
from everygust.images import image
from everygust.lean import lean
from everygust.limits import few_lean
from everygust.papers import added_pair
from everygust.regions import MOST_REGIONS, zones_less
from everygust.rows import is_in, joined
from everygust.solids import corners_if_any
from everygust.tableau import Tableau
from everygust.vectors import divided
from everygust.weights import is_bare, is_bounded
from everygust.zones import turned


def lot_at(lot, point):
    """The least number of a room that has a point, None if none has it."""
    for number, room in enumerate(lot):
        if is_in(room, point):
            return number
    return None


def all_at(lot, point):
    """The ascending tuple of the numbers of the rooms that have a point."""
    return tuple([number for number, room in enumerate(lot) if is_in(room, point)])


def lot_within(lot, other):
    """None if a lot is within another one, otherwise a point of it that the other one has not."""
    for n, rows in lot:
        point = Cover(n, other).tree(rows)[1]
        if point is not None:
            return point
    return None


def lot_paper(lot, other):
    """A lot paper for two lots: trees for the rooms of the one, or a point that only this one has."""
    trees = []
    for k, (n, rows) in enumerate(lot):
        tree, point = Cover(n, other).tree(rows)
        if tree is None:
            return ("point", k, point)
        trees.append(tree)
    return ("trees", tuple(trees))


def _point_fault(lot, other, k, point):
    if not is_in(lot[k], point):
        return ("out",)
    j = lot_at(other, point)
    return None if j is None else ("in", j)


def _is_bare_leaf(n, rows, weights):
    form, bound = added_pair((n, rows), weights)
    return not any(k[0] for k in form) and not is_less((-1, 1), bound)


def _is_in_leaf(n, rows, room, lots):
    # Whether weights of some rows show each row of a room.
    for (a, b), weights in zip(room[1], lots):
        form, bound = added_pair((n, rows), weights)
        if form != divided(a, 1) or is_less((b, 1), bound):
            return False
    return True


def _is_leaf(n, rows, other, node):
    # Whether a node that is no split is a leaf, in form and right.
    if is_told(node, "bare", 2) and is_weights(len(rows), node[1]):
        return _is_bare_leaf(n, rows, node[1])
    if not is_told(node, "in", 3) or not is_number_of(node[1], len(other)):
        return False
    room = other[node[1]]
    if not is_tuple_of(node[2], len(room[1])) or not all(is_weights(len(rows), some) for some in node[2]):
        return False
    return _is_in_leaf(n, rows, room, node[2])


def _wrong_node(n, rows, other, node, path):
    # The path of the first wrong node of a tree, None if there is none.
    if not is_told(node, "split", 4):
        return None if _is_leaf(n, rows, other, node) else path
    _, row, low, high = node
    if not is_row(n, row):
        return path
    found = _wrong_node(n, rows + (row,), other, low, path + (0,))
    if found is None:
        found = _wrong_node(n, rows + (turned(row),), other, high, path + (1,))
    return found


def judge_lot_paper(lot, other, value):
    """None if a value, which may be anything, is a lot paper for two lots; otherwise its first fault."""
    if is_told(value, "point", 3) and is_number_of(value[1], len(lot)) and is_point(lot[value[1]][0], value[2]):
        return _point_fault(lot, other, value[1], value[2])
    if not is_told(value, "trees", 2) or not is_tuple_of(value[1], len(lot)):
        return ("form",)
    for k, ((n, rows), tree) in enumerate(zip(lot, value[1])):
        path = _wrong_node(n, rows, other, tree, ())
        if path is not None:
            return ("node", k, path)
    return None


def lots_alike(lot, other):
    """Whether two lots have the same points."""
    return lot_within(lot, other) is None and lot_within(other, lot) is None


def spare(lot):
    """The ascending tuple of the numbers of the rooms that go, from the last one on, for others have their points."""
    left, found = list(range(len(lot))), []
    for number in reversed(range(len(lot))):
        rest = [k for k in left if k != number]
        if lot_within((lot[number],), tuple([lot[k] for k in rest])) is None:
            left = rest
            found.append(number)
    return tuple(reversed(found))


def thinned(lot):
    """The lot without its spare rooms, each other one lean."""
    gone = spare(lot)
    return tuple([lean(room) for number, room in enumerate(lot) if number not in gone])


def _regions_apart(lot, other):
    # The regions of a lot less another one, room by room; each room less those ahead of it, too.
    found = []
    for number, (n, rows) in enumerate(lot):
        found.extend(zones_less((n, rows, ()), tuple(other) + tuple(lot[:number])))
        if len(found) > MOST_REGIONS:
            raise TooGreat()
    return [zone.region for zone in found]


def lot_less(lot, other):
    """The tuple of the regions of a lot less another one, no two of which have a point in common."""
    return tuple(_regions_apart(lot, other))


def _refuse_unbounded(lot):
    if not all(is_bounded(room) for room in lot):
        raise Unbounded()


def volume_of_lot(lot):
    """The volume of the points of a lot of bounded rooms."""
    _refuse_unbounded(lot)
    return total([volume((n, rows + strict)) for n, rows, strict in _regions_apart(lot, ())])


def lots_met(lot, other):
    """The lot of the points of two lots, a lean room for each two rooms that have some in common."""
    found = [few_lean(joined(one, two)) for one in lot for two in other]
    return tuple([room for room in found if not is_bare(room)])


def lot_taken(matrix, shift, lot):
    """The lot of the images of the rooms that have points; all rooms are bounded."""
    _refuse_unbounded(lot)
    return tuple([image(matrix, shift, room) for room in lot if not is_bare(room)])


def hull_of_lot(lot):
    """The hull of a lot of at least one room, all of them bounded."""
    _refuse_unbounded(lot)
    return hull(lot[0][0], [corner for room in lot for corner in corners_if_any(room)])


def is_one_room(lot):
    """Whether the points of a lot of bounded rooms are those of a room."""
    if not lot:
        return True
    return lot_within((hull_of_lot(lot),), lot) is None


def _common_point(one, other):
    # A point of two rooms, None if they have none in common.
    tableau = Tableau(one[0], one[1] + other[1])
    if tableau.settle() is not None:
        return None
    numbers, denominator = tableau.spot()
    return divided(numbers, denominator)


def _reached(lot, begin):
    # The rooms that one comes to from some rooms, as the keys of a dict, each with the pair of the room that one comes
    # from and a point of both; None for the rooms one begins in.
    found = {number: None for number in begin}
    queue, at = list(begin), 0
    while at < len(queue):
        number = queue[at]
        at += 1
        for other, room in enumerate(lot):
            point = None if other in found else _common_point(lot[number], room)
            if point is not None:
                found[other] = (number, point)
                queue.append(other)
    return found


def clumps(lot):
    """The ascending tuple of the clumps, each the ascending tuple of the numbers of its rooms."""
    seen, found = {}, []
    for number, room in enumerate(lot):
        if number in seen or is_bare(room):
            continue
        clump = sorted(_reached(lot, (number,)))
        seen.update({one: True for one in clump})
        found.append(tuple(clump))
    return tuple(found)


def road(lot, point, other):
    """A road from a point to another one, None if there is none."""
    reached = _reached(lot, all_at(lot, point))
    ends = [number for number in all_at(lot, other) if number in reached]
    if not ends:
        return None
    found, came = [other], reached[ends[0]]
    while came is not None:
        found.append(came[1])
        came = reached[came[0]]
    found.append(point)
    return tuple(reversed(found))


def judge_road(lot, point, other, value):
    """None if a value, which may be anything, is a road from a point to another one; otherwise its first fault."""
    if type(value) is not tuple or not value or not all(is_point(len(point), one) for one in value):
        return ("form",)
    if value[0] != point:
        return ("begin",)
    if value[-1] != other:
        return ("end",)
    for k, (one, two) in enumerate(zip(value, value[1:])):
        if not any(is_in(room, one) and is_in(room, two) for room in lot):
            return ("leap", k)
    return ("leap", 0) if len(value) == 1 and lot_at(lot, point) is None else None
