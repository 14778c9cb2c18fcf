"""What the judges of papers of weights have in common."""

from everygust.fractions import fraction_of
from everygust.vectors import divided, dot, whole


def added_numbers(room, weights):
    """The triple (members, bound, denominator) of what weights of a room add up to, in integers."""
    numbers, denominator = whole(weights)
    members, bound = [0] * room[0], 0
    for k, (a, b) in zip(numbers, room[1]):
        if k:
            members = [v + k * w for v, w in zip(members, a)]
            bound += k * b
    return (members, bound, denominator)


def added_pair(room, weights):
    """The pair (form, bound) that weights of a room add up to."""
    members, bound, denominator = added_numbers(room, weights)
    return (divided(members, denominator), fraction_of(bound, denominator))


def weight_fault(weights):
    """The first weight below 0, told as a fault, or None."""
    for k, weight in enumerate(weights):
        if weight[0] < 0:
            return ("weight", k)
    return None


def unlike_place(one, other):
    """The first place at which two tuples are unlike, None if they are equal."""
    for k, (member, told) in enumerate(zip(one, other)):
        if member != told:
            return k
    return None


def adding_fault(room, weights, form):
    """The first weight below 0, or the first column in which weights do not add up to a form, or None."""
    fault = weight_fault(weights)
    if fault is not None:
        return fault
    place = unlike_place(added_pair(room, weights)[0], form)
    return None if place is None else ("sum", place)


def growing_row(room, way):
    """The number of the first row with which a form is above 0, None if there is none."""
    numbers, _ = whole(way)
    for k, (a, _) in enumerate(room[1]):
        if dot(a, numbers) > 0:
            return k
    return None
