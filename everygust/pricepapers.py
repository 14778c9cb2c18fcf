"""Papers that show what is sure to be paid at most from a standing, or that it can't be brought down to a number."""

from everygust.bookings import Asking, Booking, form_at
from everygust.foes import foe_paper
from everygust.forms import is_row, is_told, is_tuple_of, is_weights, is_whole
from everygust.fractions import fraction_of, highest, is_less, minus, plus, times, total
from everygust.helms import judge_helm, refuse_many
from everygust.papers import added_pair
from everygust.prices import end_price, price_levels, step_price, worth
from everygust.rowpapers import bad_gust, is_parts, parts_sums, shown_fault, summed
from everygust.rows import next_of, slack
from everygust.settled import settled
from everygust.solids import room_corners
from everygust.tiers import tier_below
from everygust.vectors import divided


def paper_price(plant, cost, left, x, paper):
    """The price of a right helm paper for a standing."""
    return _price_of(plant, cost, room_corners(plant[5]), x, paper)


def _price_of(plant, cost, gusts, x, paper):
    if not paper:
        return end_price(cost, x)
    u, papers = paper
    behind = []
    for gust, one in zip(gusts, papers):
        behind.append(_price_of(plant, cost, gusts, next_of(plant, x, u, gust), one))
    return plus(step_price(cost, x, u), highest(behind))


def _cheap_paper(askings, gusts, left, x):
    # A helm paper of the least price for a standing of a level; askings has what the prices below ask, by steps left.
    if left == 0:
        return ()
    told = askings[left - 1]
    u = told.cheapest(x)[0]
    papers = [_cheap_paper(askings, gusts, left - 1, next_of(told.plant, x, u, gust)) for gust in gusts]
    return (u, tuple(papers))


def _ends_told(cost):
    return tuple([(p, r, 1) for p, r in cost[1]])


def _dear_paper(plant, walls, goal, cost, prices, form):
    # A dear paper whose first entry shows a form of the last of some prices. Below level 1 the rows of walls and goal
    # and the ends are taken as they are told, not as the price of level 0 has them.
    below = (((walls[0], walls[1] + goal[1]), _ends_told(cost)),) + prices[1:-1]
    tiers, told = [], [form]
    for room, forms in reversed(below[:len(prices) - 1]):
        booking = Booking(plant, walls, cost, room, forms)
        tableau = settled((booking.n + booking.m + 2, booking.rows))
        tier, told = tier_below([booking.shown_by(tableau, one) for one in told], room[1] + forms)
        tiers.append(tier)
    tiers.append(tuple([(one,) for one in told]))
    return tuple(tiers)


def _first_above(forms, x, t):
    for form in forms:
        if is_less(t, form_at(form, x)):
            return form
    return None


def price_paper(plant, walls, goal, cost, left, x, t):
    """A right helm paper with a price of at most t, or a right dear paper."""
    prices = price_levels(plant, walls, goal, cost, left)
    least = worth(prices[left], x)
    if least is None:
        return ("dear", foe_paper(plant, walls, goal, left, x))
    if is_less(t, least):
        forms = prices[left][1] if left else _ends_told(cost)
        return ("dear", _dear_paper(plant, walls, goal, cost, prices, _first_above(forms, x, t)))
    gusts = room_corners(plant[5])
    refuse_many(len(gusts), left)
    askings = [Asking(plant, cost[0], room, forms) for room, forms in prices[:left]]
    return ("pays", _cheap_paper(askings, gusts, left, x))


def _is_form(n, value):
    return is_tuple_of(value, 3) and is_row(n, value[:2]) and is_whole(value[2]) and value[2] >= 1


class DearJudge:
    """Looks through dear papers for one plant, walls, goal and cost."""

    def __init__(self, plant, walls, goal, cost):
        self.plant = plant
        self.walls = walls
        self.goal = goal
        self.cost = cost

    def _is_told(self, value):
        return is_row(self.walls[0], value) or _is_form(self.walls[0], value)

    def _is_entry(self, below, value):
        # Whether a value has the form of an entry that leans on one of so many below.
        if type(value) is not tuple or len(value) not in (4, 5) or not is_parts(value[1], below, self.plant[5][0]):
            return False
        wishes, walls = len(self.plant[4][1]), len(self.walls[1])
        if not is_weights(wishes, value[-2]) or not is_weights(walls, value[-1]):
            return False
        if len(value) == 4:
            return is_row(self.walls[0], value[0])
        return _is_form(self.walls[0], value[0]) and is_weights(len(self.cost[0]), value[2])

    def is_in_form(self, left, value):
        """Whether a value has the form of a dear paper for so many steps."""
        if not is_tuple_of(value, left + 1) or not all(type(tier) is tuple for tier in value) or not value[0]:
            return False
        for tier, below in zip(value, value[1:]):
            if not all(self._is_entry(len(below), entry) for entry in tier):
                return False
        return all(is_tuple_of(entry, 1) and self._is_told(entry[0]) for entry in value[left])

    def fault(self, x, t, tiers):
        """The first fault of a paper in form, None if it is right."""
        first = tiers[0][0][0]
        if len(first) == 2 and slack(first, x)[0] >= 0 or len(first) == 3 and not is_less(t, form_at(first, x)):
            return ("there",)
        for number, (tier, behind) in enumerate(zip(tiers, tiers[1:])):
            below = [entry[0] for entry in behind]
            for k, entry in enumerate(tier):
                fault = self._entry_fault(below, entry)
                if fault is not None:
                    return (fault[0], number, k) + fault[1:]
        for k, (told,) in enumerate(tiers[-1]):
            if not self._is_last(told):
                return ("last", k)
        return None

    def _is_last(self, told):
        if len(told) == 2:
            return told in self.walls[1] or told in self.goal[1]
        return told[2] == 1 and told[:2] in self.cost[1]

    def _entry_fault(self, below, entry):
        number = bad_gust(self.plant, entry[1])
        if number is not None:
            return ("gust", number)
        if len(entry) == 5:
            return self._form_fault(below, entry)
        for number, part in enumerate(entry[1]):
            if len(below[part[0]]) == 3:
                return ("kind", number)
        return shown_fault(self.plant, self.walls, below, entry[0], entry[1:])

    def _form_fault(self, below, entry):
        (members, bound, d), parts, mu, nu, lam = entry
        ones = [weight for i, weight, _ in parts if len(below[i]) == 3]
        if total(mu) != (1, 1) or total(ones) != (1, 1):
            return ("ones",)
        form, turn, alone = self._sums(below, parts, mu, nu, lam)
        if any(k[0] for k in turn):
            return ("turn",)
        if form != divided(members, d):
            return ("row",)
        return ("sum",) if is_less(alone, fraction_of(bound, d)) else None

    def _sums(self, below, parts, mu, nu, lam):
        # What stands before the standing, before the wish, and alone, all added up.
        rows = [told if len(told) == 2 else (told[0], -told[1]) for told in below]
        shared = []
        for i, weight, gust in parts:
            share = (1, below[i][2]) if len(below[i]) == 3 else (1, 1)
            shared.append((i, times(share, weight), gust))
        form, turn, bound = parts_sums(self.plant, rows, shared, nu)
        told, behind = added_pair(self.walls, lam)
        form, alone = summed(form, told), minus((0, 1), plus(bound, behind))
        for weight, (p, q, r) in zip(mu, self.cost[0]):
            form = summed(form, [times(weight, (k, 1)) for k in p])
            turn = summed(turn, [times(weight, (k, 1)) for k in q])
            alone = plus(alone, times(weight, (r, 1)))
        return (form, turn, alone)


def judge_price(plant, walls, goal, cost, left, x, t, value):
    """None if a value, which may be anything, is a right paper for or against a price; otherwise its first fault."""
    if is_told(value, "pays", 2):
        fault = judge_helm(plant, walls, goal, left, x, value[1])
        if fault is not None:
            return ("helm",) + fault
        price = paper_price(plant, cost, left, x, value[1])
        return ("more", price) if is_less(t, price) else None
    judge = DearJudge(plant, walls, goal, cost)
    if not is_told(value, "dear", 2) or not judge.is_in_form(left, value[1]):
        return ("form",)
    return judge.fault(x, t, value[1])
