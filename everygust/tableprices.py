"""Prices of tables: the greatest price that gusts, of all sorts, can make their wishes cost."""

from everygust.errors import TooGreat
from everygust.forms import is_number_of, is_point, is_tuple_of
from everygust.fractions import is_less, plus, total
from everygust.prices import end_price, step_price
from everygust.rows import image_of, is_in, next_of
from everygust.solving import greatest_at
from everygust.tableau import Tableau
from everygust.unknowns import asked_of, form_sum, next_told, numbers_told, taken_by, unknowns_told, worth_told
from everygust.vectors import divided

MOST_TUPLES = 2000


def _refuse_many(cost, tables):
    many = len(cost[1])
    for table in tables:
        many *= len(table) * len(cost[0])
    if many > MOST_TUPLES:
        raise TooGreat()


class Plays:
    """All plays of some tables, the first of which tells the last wish, from a standing; gusts are unknowns.

    best is the greatest price that was found, with a play that has it, None at first.
    """

    def __init__(self, plant, cost, tables):
        self.plant = plant
        self.cost = cost
        self.tables = list(reversed(tables))
        self.k = plant[5][0]
        self.size = self.k * len(tables)
        self.best = None

    def look_from(self, x):
        """Looks for the dearest play from a standing."""
        self._look(Tableau(self.size, self._gust_rows()), (), numbers_told(self.size, x), [])

    def _gust_rows(self):
        rows = []
        for step in range(len(self.tables)):
            gust = unknowns_told(self.size, step * self.k, self.k)
            rows.extend([asked_of(row, gust, self.size)[0] for row in self.plant[5][1]])
        return rows

    def _look(self, tableau, pieces, x, prices):
        # x is told by the gusts that blew so far; prices has for each step the list of what its triples tell.
        if tableau.settle() is not None:
            return
        step = len(pieces)
        if step == len(self.tables):
            ends = [self._told(p, x, r) for p, r in self.cost[1]]
            self._climb(tableau, pieces, ((0, 1),) * (self.size + 1), prices + [ends])
            return
        for number, (room, lines, still) in enumerate(self.tables[step]):
            within = tableau.twin()
            for row in room[1]:
                within.take_in(asked_of(row, x, self.size)[0])
            wish = taken_by(lines, x, numbers_told(self.size, still))
            told = [form_sum(self._told(p, x, r), self._told(q, wish, 0)) for p, q, r in self.cost[0]]
            gust = unknowns_told(self.size, step * self.k, self.k)
            self._look(within, pieces + (number,), next_told(self.plant, x, wish, gust), prices + [told])

    def _told(self, members, point, alone):
        found = worth_told(divided(members, 1), point, self.size)
        return found[:-1] + (plus(found[-1], (alone, 1)),)

    def _climb(self, tableau, pieces, form, prices):
        # Goes through all choices of one form of each list, and looks where their sum is greatest.
        if prices:
            for one in prices[0]:
                self._climb(tableau, pieces, form_sum(form, one), prices[1:])
            return
        _, value, spot, _ = greatest_at(tableau, form[:-1])
        value = plus(value, form[-1])
        if self.best is None or is_less(self.best[0], value):
            gusts = [spot[step * self.k:step * self.k + self.k] for step in range(len(pieces))]
            self.best = (value, tuple([(number, gust) for number, gust in zip(pieces, gusts)]))


def worst_price(plant, cost, tables, x):
    """The pair of the worst price of tables from a standing, the last of which tells the first wish, and a play."""
    _refuse_many(cost, tables)
    plays = Plays(plant, cost, tables)
    plays.look_from(x)
    return plays.best


def play_price(plant, cost, tables, x, play):
    """The price of pairs (number of a piece, gust), if they are a play from a standing, otherwise None."""
    if not is_tuple_of(play, len(tables)):
        return None
    standing, prices = x, []
    for table, pair in zip(reversed(tables), play):
        if not is_tuple_of(pair, 2) or not is_number_of(pair[0], len(table)):
            return None
        number, gust = pair
        if not is_point(plant[5][0], gust) or not is_in(plant[5], gust) or not is_in(table[number][0], standing):
            return None
        wish = image_of(table[number][1], standing, table[number][2])
        prices.append(step_price(cost, standing, wish))
        standing = next_of(plant, standing, wish, gust)
    return plus(total(prices), end_price(cost, standing))
