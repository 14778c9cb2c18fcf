"""Regions: what rows let by, some of them strictly; and regions less rooms."""

from everygust.errors import TooGreat
from everygust.forms import is_point, is_told, is_weights
from everygust.fractions import plus
from everygust.limits import few_lean
from everygust.papers import added_pair
from everygust.rows import first_broken, is_in, slack
from everygust.tableau import Tableau
from everygust.trimming import bare_rows
from everygust.vectors import divided
from everygust.zones import zone_of

MOST_REGIONS = 300


def in_region(region, point):
    """Whether a point is in a region."""
    n, rows, strict = region
    return is_in((n, rows), point) and all(slack(row, point)[0] > 0 for row in strict)


def _gaps(region):
    # A tableau with one more number behind the coordinates: by how much, at most 1, the strict rows are kept.
    n, rows, strict = region
    told = [(a + (0,), b) for a, b in rows] + [(a + (1,), b) for a, b in strict]
    return Tableau(n + 1, told + [((0,) * n + (1,), 1)])


def _at_widest(region):
    # Such a tableau where the number is greatest, None if there are no points at all.
    tableau = _gaps(region)
    if tableau.settle() is not None:
        return None
    tableau.aim_at((0,) * region[0] + (1,))
    tableau.climb()
    return tableau


def region_point(region):
    """Any point in a region, None if there is none."""
    tableau = _at_widest(region)
    if tableau is None or tableau.aim[0] <= 0:
        return None
    numbers, denominator = tableau.spot()
    return divided(numbers[:-1], denominator)


def closing(region):
    """The closing of a region, lean."""
    n, rows, strict = region
    if zone_of(region) is None:
        return (n, bare_rows(n))
    return few_lean((n, rows + strict))


def region_paper(region):
    """A paper that shows a point in a region, or that there is none."""
    _, rows, strict = region
    point = region_point(region)
    if point is not None:
        return ("point", point)
    tableau = _at_widest(region)
    # Where not even the rows by themselves have points, these alone are weighed.
    weights = _gaps(region).settle() if tableau is None else divided(tableau.weights(), tableau.den)
    return ("weights", weights[:len(rows)], weights[len(rows):len(rows) + len(strict)])


def _point_fault(region, point):
    n, rows, strict = region
    k = first_broken((n, rows), point)
    if k is not None:
        return ("row", k)
    for k, row in enumerate(strict):
        if slack(row, point)[0] <= 0:
            return ("row", len(rows) + k)
    return None


def _weights_fault(region, first, second):
    n, rows, strict = region
    one, other = added_pair((n, rows), first), added_pair((n, strict), second)
    if any(plus(x, y)[0] for x, y in zip(one[0], other[0])):
        return ("sum",)
    number = plus(one[1], other[1])[0]
    if number < 0 or number == 0 and any(weight[0] for weight in second):
        return None
    return ("number",)


def judge_region(region, value):
    """None if a value, which may be anything, is a region paper; otherwise its first fault."""
    n, rows, strict = region
    if is_told(value, "point", 2) and is_point(n, value[1]):
        return _point_fault(region, value[1])
    if is_told(value, "weights", 3) and is_weights(len(rows), value[1]) and is_weights(len(strict), value[2]):
        return _weights_fault(region, value[1], value[2])
    return ("form",)


def region_less(region, room):
    """The tuple of the regions of a region less a room."""
    zone = zone_of(region)
    return () if zone is None else tuple([one.region for one in zone.less(room)])


def zones_less(region, lot):
    """The list of the zones of a region less the rooms of a lot, one after another; refuses too many."""
    zone = zone_of(region)
    found = [] if zone is None else [zone]
    for room in lot:
        left = []
        for one in found:
            left.extend(one.less(room))
            if len(left) > MOST_REGIONS:
                raise TooGreat()
        found = left
    return found


def less_lot(region, lot):
    """The tuple of the regions of a region less a lot."""
    return tuple([zone.region for zone in zones_less(region, lot)])
