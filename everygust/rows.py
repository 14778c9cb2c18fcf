"""Rows, rooms and what is made of them, and the next standing of a plant."""

from everygust.fractions import fraction_of, plus, times, total
from everygust.vectors import divisor, dot, unit, whole


def plain_row(row):
    """The row made plain: the same points are within it."""
    members, bound = row
    if not any(members):
        return (tuple(members), 0 if bound >= 0 else -1)
    shared = divisor(members + (bound,))
    return (tuple([k // shared for k in members]), bound // shared)


def row_of(members, bound):
    """The plain row of a tuple of fractions and a fraction."""
    numbers, _ = whole(members + (bound,))
    return plain_row((numbers[:-1], numbers[-1]))


def is_always(row):
    """Whether the row, made plain, has each point within it by noughts alone."""
    return not any(row[0]) and row[1] >= 0


def is_never(row):
    """Whether the row, made plain, has no point within it."""
    return not any(row[0]) and row[1] < 0


def reach(row, point):
    """The sum of the products of the row's members with the coordinates."""
    numbers, denominator = whole(point)
    return fraction_of(dot(row[0], numbers), denominator)


def slack(row, point):
    """By how much the row's bound is above what the point reaches."""
    numbers, denominator = whole(point)
    return fraction_of(row[1] * denominator - dot(row[0], numbers), denominator)


def tight_rows(room, point):
    """The numbers of the rows that the point reaches just to their bound."""
    numbers, denominator = whole(point)
    return [k for k, (a, b) in enumerate(room[1]) if dot(a, numbers) == b * denominator]


def first_broken(room, point):
    """The number of the first row that the point breaks, None if it breaks none."""
    numbers, denominator = whole(point)
    for k, (a, b) in enumerate(room[1]):
        if dot(a, numbers) > b * denominator:
            return k
    return None


def is_in(room, point):
    """Whether the point is one of the room."""
    return first_broken(room, point) is None


def joined(one, other):
    """The room of the points that two rooms of one n have together."""
    return (one[0], tuple([plain_row(row) for row in one[1] + other[1]]))


def product(one, other):
    """The room of all points of the one, each with all points of the other behind it."""
    behind, ahead = (0,) * other[0], (0,) * one[0]
    rows = [plain_row((a + behind, b)) for a, b in one[1]]
    rows.extend([plain_row((ahead + a, b)) for a, b in other[1]])
    return (one[0] + other[0], tuple(rows))


def shifted(room, point):
    """The room moved by a point."""
    numbers, denominator = whole(point)
    rows = []
    for a, b in room[1]:
        moved = [k * denominator for k in a]
        rows.append(plain_row((tuple(moved), b * denominator + dot(a, numbers))))
    return (room[0], tuple(rows))


def scaled(room, t):
    """The room grown t times about 0, t above 0."""
    rows = [plain_row((tuple([k * t[1] for k in a]), b * t[0])) for a, b in room[1]]
    return (room[0], tuple(rows))


def mirrored(room):
    """The room of the points that are points of this one with all signs turned."""
    return (room[0], tuple([plain_row((tuple([-k for k in a]), b)) for a, b in room[1]]))


def placed(room, order):
    """The room whose coordinate number j is number order[j] of this one's."""
    rows = [plain_row((tuple([a[k] for k in order]), b)) for a, b in room[1]]
    return (room[0], tuple(rows))


def boxed(low, high):
    """The room of the points between two points, place by place."""
    n = len(low)
    rows = []
    for k in range(n):
        p, q = high[k]
        rows.append(plain_row((unit(n, k, q), p)))
        p, q = low[k]
        rows.append(plain_row((unit(n, k, -q), -p)))
    return (n, tuple(rows))


def open_room(n):
    """The room of all points of n."""
    return (n, ())


def image_of(matrix, point, shift):
    """The point that a matrix and a shift take a point to."""
    found = []
    for line, moved in zip(matrix, shift):
        found.append(plus(total([times(m, x) for m, x in zip(line, point)]), moved))
    return tuple(found)


def next_of(plant, x, u, w):
    """The next standing behind a standing, a wish and a gust, or what stands for these."""
    by_standing, by_wish, by_gust, still = plant[:4]
    found = image_of(by_standing, x, still)
    found = image_of(by_wish, u, found)
    return image_of(by_gust, w, found)
