"""Papers that show what rows are told of the standings that some wish leads into a room: their form and their sums.

A paper's parts are triples (number of a row, fraction above 0, gust); behind them stand weights of the wishes' rows
and, where a row is shown, of the walls' rows.
"""

from everygust.demands import column_sums
from everygust.forms import is_number_of, is_point, is_share, is_tuple_of, is_weights
from everygust.fractions import is_less, minus, plus, times, total
from everygust.papers import added_pair
from everygust.rows import is_in, reach
from everygust.solving import form_worth
from everygust.vectors import divided


def is_parts(value, many, k):
    """Whether a value is a tuple of parts: the numbers of so many rows, fractions above 0, points of k."""
    if type(value) is not tuple:
        return False
    for part in value:
        if not is_tuple_of(part, 3) or not is_number_of(part[0], many):
            return False
        if not is_share(part[1]) or not is_point(k, part[2]):
            return False
    return True


def is_bar(plant, many, value):
    """Whether a value has the form of a bar over so many rows: parts and weights of the wishes."""
    if not is_tuple_of(value, 2) or not is_parts(value[0], many, plant[5][0]):
        return False
    return is_weights(len(plant[4][1]), value[1])


def is_row_paper(plant, walls, many, value):
    """Whether a value has the form of a paper over so many rows: parts, weights of the wishes and of the walls."""
    return is_tuple_of(value, 3) and is_bar(plant, many, value[:2]) and is_weights(len(walls[1]), value[2])


def bad_gust(plant, parts):
    """The number of the first part whose gust is none, None if there is none."""
    for number, part in enumerate(parts):
        if not is_in(plant[5], part[2]):
            return number
    return None


def summed(one, other):
    """The sum of two forms."""
    return tuple([plus(x, y) for x, y in zip(one, other)])


def parts_sums(plant, rows, parts, nu):
    """What parts and weights of the wishes add up to: a form of standings, a form of wishes, and the number behind."""
    by_standing, by_wish, by_gust, still, wishes, gusts = plant
    form, bound = ((0, 1),) * len(still), (0, 1)
    for number, weight, gust in parts:
        a, b = rows[number]
        asked = column_sums(divided(a, 1), by_gust, gusts[0])
        rest = minus(minus((b, 1), reach((a, b), still)), form_worth(asked, gust))
        bound = plus(bound, times(weight, rest))
        form = summed(form, [times(weight, (k, 1)) for k in a])
    told, number = added_pair(wishes, nu)
    turn = summed(column_sums(form, by_wish, wishes[0]), told)
    return (column_sums(form, by_standing, len(still)), turn, plus(bound, number))


def shown_fault(plant, walls, rows, row, paper):
    """The first fault of a paper, in form, over some rows that should show a row; None if it does."""
    parts, nu, lam = paper
    number = bad_gust(plant, parts)
    if number is not None:
        return ("gust", number)
    form, turn, bound = parts_sums(plant, rows, parts, nu)
    told, behind = added_pair(walls, lam)
    if any(k[0] for k in turn):
        return ("turn",)
    if summed(form, told) != divided(row[0], 1):
        return ("row",)
    return ("sum",) if is_less((row[1], 1), total([bound, behind])) else None
