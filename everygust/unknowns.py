"""Points told by unknowns: each coordinate is a form of the unknowns, with one fraction that stands alone behind it."""

from everygust.fractions import minus, plus, times
from everygust.vectors import whole


def numbers_told(size, point):
    """A point without unknowns, told by so many of them."""
    return tuple([((0, 1),) * size + (k,) for k in point])


def unknowns_told(size, begin, many):
    """The point whose coordinates are unknowns, so many from a number on."""
    found = []
    for k in range(begin, begin + many):
        found.append(tuple([(1, 1) if j == k else (0, 1) for j in range(size + 1)]))
    return tuple(found)


def form_sum(one, other):
    """The sum of two forms."""
    return tuple([plus(x, y) for x, y in zip(one, other)])


def form_times(t, form):
    """A form, taken t times."""
    return tuple([times(t, k) for k in form])


def taken_by(matrix, point, shift):
    """Where a matrix takes a told point to, moved by another one."""
    found = []
    for line, moved in zip(matrix, shift):
        told = moved
        for k, form in zip(line, point):
            if k[0]:
                told = form_sum(told, form_times(k, form))
        found.append(told)
    return tuple(found)


def next_told(plant, x, u, w):
    """The next standing behind a standing, a wish and a gust, all of them told points."""
    by_standing, by_wish, by_gust, still = plant[:4]
    found = taken_by(by_standing, x, numbers_told(len(x[0]) - 1, still))
    found = taken_by(by_wish, u, found)
    return taken_by(by_gust, w, found)


def apart_told(one, other):
    """The one told point less the other one."""
    return tuple([tuple([minus(x, y) for x, y in zip(p, q)]) for p, q in zip(one, other)])


def worth_told(form, point, size):
    """The worth of a form at a told point; size is how many unknowns there are."""
    return taken_by((form,), point, (((0, 1),) * (size + 1),))[0]


def asked_of(row, point, size):
    """What a row asks of a told point: the pair of a row of integers for the unknowns, and how often it was taken."""
    form = worth_told(tuple([(k, 1) for k in row[0]]), point, size)
    numbers, often = whole(form[:-1] + (minus((row[1], 1), form[-1]),))
    return ((numbers[:-1], numbers[-1]), often)
