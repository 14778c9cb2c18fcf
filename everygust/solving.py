"""The greatest worth of a form, and mixed forms, in any number of unknowns."""

from everygust.forms import is_point, is_told
from everygust.fractions import fraction_of, times
from everygust.guesses import likely_tight
from everygust.tableau import Tableau
from everygust.vectors import divided, primitive, whole


def greatest_at(tableau, form):
    """The answer for a tableau that stands at a point of its room."""
    numbers, scale = whole(form)
    tableau.aim_at(numbers)
    c = tableau.climb()
    spot, den = tableau.spot()
    if c:
        return ("far", divided(spot, den), divided(primitive(tableau.way(c)), 1))
    value = fraction_of(tableau.aim[0], den * scale)
    return ("most", value, divided(spot, den), divided(tableau.weights(), den * scale))


def greatest_of(n, rows, form):
    """An answer to what the greatest worth of a form of n is where rows of n hold."""
    tableau = Tableau(n, rows, likely_tight(n, rows, form))
    bare = tableau.settle()
    if bare is not None:
        return ("bare", bare)
    return greatest_at(tableau, form)


def mixed(parts, target):
    """A mixing paper for a list of forms, the parts, and a form, the target."""
    scales, rows = [], []
    for part in parts:
        numbers, scale = whole(part)
        scales.append(scale)
        rows.append((numbers, 0))
    answer = greatest_of(len(target), rows, target)
    if answer[0] == "far":
        return ("parted", answer[2])
    return ("mixed", tuple([times(weight, (scale, 1)) for weight, scale in zip(answer[3], scales)]))


def form_worth(form, point):
    """The sum of the products of the members of two tuples of fractions."""
    numbers, one = whole(form)
    others, other = whole(point)
    return fraction_of(sum([x * y for x, y in zip(numbers, others)]), one * other)


def _judge_weights(parts, target, weights):
    for k, weight in enumerate(weights):
        if weight[0] < 0:
            return ("weight", k)
    for k, member in enumerate(target):
        if form_worth(weights, [part[k] for part in parts]) != member:
            return ("sum", k)
    return None


def _judge_parting(parts, target, form):
    for k, part in enumerate(parts):
        if form_worth(form, part)[0] > 0:
            return ("part", k)
    return None if form_worth(form, target)[0] > 0 else ("target",)


def judge_mixed(parts, target, value):
    """None if a value, which may be anything, is a mixing paper; otherwise its first fault."""
    if is_told(value, "mixed", 2) and is_point(len(parts), value[1]):
        return _judge_weights(parts, target, value[1])
    if is_told(value, "parted", 2) and is_point(len(target), value[1]):
        return _judge_parting(parts, target, value[1])
    return ("form",)
