"""Prices: what the helm is sure to pay at most, level by level, and the wishes by which it does."""

from everygust.bookings import Asking, Booking, form_at, form_rows, price_of
from everygust.fractions import fraction_of, highest, plus, total
from everygust.limits import few_lean
from everygust.rows import is_in, joined, row_of
from everygust.solving import form_worth
from everygust.vectors import divided


def step_price(cost, x, u):
    """The price of a step from a standing by a wish, or what stands for it."""
    worths = []
    for p, q, r in cost[0]:
        worths.append(total([form_worth(divided(p, 1), x), form_worth(divided(q, 1), u), (r, 1)]))
    return highest(worths)


def end_price(cost, x):
    """The price of an end at a standing."""
    return highest([plus(form_worth(divided(p, 1), x), (r, 1)) for p, r in cost[1]])


def price_levels(plant, walls, goal, cost, many):
    """The tuple of the prices of the levels 0 to many."""
    found = [lean_price(joined(walls, goal), [(p, r, 1) for p, r in cost[1]])]
    for _ in range(many):
        found.append(one_back(plant, walls, cost, found[-1]))
    return tuple(found)


def one_back(plant, walls, cost, price):
    """The lean price one step ahead of a lean price."""
    room, forms = price
    return Booking(plant, walls, cost, room, forms).price()


def worth(price, x):
    """The worth of a price at a point, None if it is not in its room."""
    room, forms = price
    if not forms or not is_in(room, x):
        return None
    return highest([form_at(form, x) for form in forms])


def lean_price(room, forms):
    """The lean price of a bounded room and some forms, at least one if the room has points."""
    n = room[0]
    above = [(a + (0,), b) for a, b in room[1]]
    above.extend(form_rows(forms))
    return price_of(n, few_lean((n + 1, tuple(above)))[1])


def paying(plant, price, cost, x, t):
    """The wishes by which no more than t is to be paid from a standing of the walls, with a price behind the step."""
    room, forms = price
    m = plant[4][0]
    asked = Asking(plant, cost[0], room, forms).wish_rows(x)
    begin, end = len(room[1]), len(room[1]) + len(forms)
    steps = len(asked) - len(cost[0])
    rows = [(a[:m], b) for a, b in asked[:begin] + asked[end:steps]]
    for step in asked[steps:]:
        for form in asked[begin:end]:
            rows.append(_both(step, form, t))
    return few_lean((m, tuple(rows)))


def _both(step, form, t):
    # What a triple of steps and a form behind it ask of a wish: divided by what stands before what is left to be paid,
    # which falls out then.
    often, other = step[0][-1], -form[0][-1]
    members = [plus(fraction_of(k, often), fraction_of(j, other)) for k, j in zip(step[0][:-2], form[0][:-2])]
    return row_of(tuple(members), total([fraction_of(step[1], often), fraction_of(form[1], other), t]))


def cheapest(plant, price, cost, x):
    """A wish that pays the least from a standing, with a price behind the step, None if there is no good one."""
    room, forms = price
    found = Asking(plant, cost[0], room, forms).cheapest(x)
    return None if found is None else found[0]
