"""Good wishes at a standing, and bars where there are none."""

from everygust.demands import Demands
from everygust.fractions import minus
from everygust.limits import few_lean
from everygust.rowpapers import bad_gust, is_bar, parts_sums
from everygust.solving import form_worth
from everygust.tableau import Tableau
from everygust.vectors import divided, whole


def good_wishes(plant, room, x):
    """The good wishes at a standing for a room, a lean room."""
    return few_lean((plant[4][0], tuple(Demands(plant, room).wish_rows(x))))


def good_wish(demands, x):
    """Any good wish at a standing for what is demanded, None if there is none."""
    tableau = Tableau(demands.plant[4][0], demands.wish_rows(x))
    if tableau.settle() is not None:
        return None
    numbers, denominator = tableau.spot()
    return divided(numbers, denominator)


def a_wish(plant, room, x):
    """Any good wish at a standing for a room, None if there is none."""
    return good_wish(Demands(plant, room), x)


def bar(plant, room, x):
    """Any right bar at a standing for a room, None if there is a good wish."""
    demands = Demands(plant, room)
    weights = Tableau(plant[4][0], demands.wish_rows(x)).settle()
    if weights is None:
        return None
    many = len(plant[4][1])
    return (demands.parts(weights[many:], whole(x)[1]), weights[:many])


def judge_bar(plant, room, x, value):
    """None if a value, which may be anything, is a right bar at a standing for a room; otherwise its first fault."""
    if not is_bar(plant, len(room[1]), value):
        return ("form",)
    parts, nu = value
    number = bad_gust(plant, parts)
    if number is not None:
        return ("gust", number)
    form, turn, bound = parts_sums(plant, room[1], parts, nu)
    if any(k[0] for k in turn):
        return ("turn",)
    return None if minus(bound, form_worth(form, x))[0] < 0 else ("sum",)
