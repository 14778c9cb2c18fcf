"""Points as means of points: the weights, and what is wrong with told ones."""

from everygust.echelon import nought_with
from everygust.forms import is_ascending, is_number_of, is_share, is_tuple_of
from everygust.fractions import fraction_of, times, total
from everygust.vectors import whole


def above_one(point):
    """The integers that tell a point as their later ones divided by the first one, which is above 0."""
    numbers, denominator = whole(point)
    return (denominator,) + numbers


def weights_in(points, point):
    """The weights, of any sign, with the sum 1 by which points that lie in no lower flat make one of their flat."""
    told = [above_one(one) for one in points]
    last = above_one(point)
    rows = [[one[j] for one in told] + [-last[j]] for j in range(len(last))]
    found = nought_with(rows, len(points) + 1)[0]
    every = found[-1] * last[0]
    return tuple([fraction_of(k * one[0], every) for k, one in zip(found, told)])


def is_mean_form(value, many):
    """Whether a value is a tuple of pairs of ascending numbers of so many points, and fractions above 0."""
    if type(value) is not tuple:
        return False
    for pair in value:
        if not is_tuple_of(pair, 2) or not is_number_of(pair[0], many) or not is_share(pair[1]):
            return False
    return is_ascending([pair[0] for pair in value])


def mean_fault(pairs, points, point):
    """None if pairs of this form make a point, otherwise what they do not."""
    if total([weight for _, weight in pairs]) != (1, 1):
        return ("sum",)
    for j, told in enumerate(point):
        if total([times(weight, points[k][j]) for k, weight in pairs]) != told:
            return ("point",)
    return None
