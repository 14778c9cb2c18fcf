"""The cut of a room into simplices, and what is reckoned by it: volume, heart and means of corners."""

from everygust.echelon import determinant
from everygust.fractions import fraction_of, over, plus, times, total
from everygust.lattice import figures, lattice, whole_face
from everygust.means import is_mean_form, mean_fault, weights_in
from everygust.rows import is_in
from everygust.solids import solid_of
from everygust.trimming import shown_at
from everygust.vectors import whole


def _cut_of(solid):
    # Each face's cut is made of those of its facets, from the corners on.
    many = len(solid.points)
    cuts = {}
    for level in lattice(solid):
        higher = {}
        for face, around in level.items():
            least = figures(face, many)[0]
            if not around:
                higher[face] = [(least,)]
                continue
            found = []
            for facet in around:
                if not facet >> least & 1:
                    found.extend([(least,) + told for told in cuts[facet]])
            higher[face] = found
        cuts = higher
    return sorted(cuts[whole_face(solid)])


def cut(room):
    """The ascending list of the simplices of the cut, each the tuple of the numbers of its corners."""
    return _cut_of(solid_of(room))


def _amount(solid, simplex):
    # The determinant of a simplex without its sign, in the free coordinates.
    rows, scale = [], 1
    for k in simplex:
        numbers, shared = whole(shown_at(solid.points[k], solid.trim.free))
        rows.append((shared,) + numbers)
        scale *= shared
    return fraction_of(abs(determinant(rows)), scale)


def volume(room):
    """The volume."""
    solid = solid_of(room)
    if solid.dimension < solid.n:
        return (0, 1)
    divided_by = 1
    for k in range(solid.n):
        divided_by *= k + 1
    found = total([_amount(solid, simplex) for simplex in _cut_of(solid)])
    return times(found, (1, divided_by))


def _middle(solid, simplex):
    share = (1, len(simplex))
    return [times(share, total([solid.points[k][j] for k in simplex])) for j in range(solid.n)]


def heart(room):
    """The mean of the centres of the simplices, weighed by their shares of the volume."""
    solid = solid_of(room)
    amounts, sums = [], [(0, 1)] * solid.n
    for simplex in _cut_of(solid):
        amount = _amount(solid, simplex)
        amounts.append(amount)
        sums = [plus(one, times(amount, k)) for one, k in zip(sums, _middle(solid, simplex))]
    every = total(amounts)
    return tuple([over(one, every) for one in sums])


def _where(solid, room, point):
    if not is_in(room, point):
        return None
    free = solid.trim.free
    told = shown_at(point, free)
    for simplex in _cut_of(solid):
        weights = weights_in([shown_at(solid.points[k], free) for k in simplex], told)
        if all(weight[0] >= 0 for weight in weights):
            return (simplex, weights)
    return None


def where(room, point):
    """The first simplex that has a point, with the weights of its corners, or None."""
    return _where(solid_of(room), room, point)


def mean_of(room, point):
    """The pairs (number of a corner, weight above 0) by which a point is a mean of corners, or None."""
    found = where(room, point)
    if found is None:
        return None
    return tuple([(k, weight) for k, weight in zip(found[0], found[1]) if weight[0] > 0])


def judge_mean(room, point, value):
    """None if a value, which may be anything, tells a point as a mean of corners; otherwise its first fault."""
    points = solid_of(room).points
    if not is_mean_form(value, len(points)):
        return ("form",)
    return mean_fault(value, points, point)
