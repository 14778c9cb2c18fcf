"""Which rows do not follow from the others: a tableau is led along the edges of the room, row by row."""

from everygust.echelon import head_of, reduced
from everygust.rows import is_always, is_never, plain_row
from everygust.settled import always_tight, settled
from everygust.vectors import divisor


def _is_free(tableau, c):
    # Whether the loose slack of a column can fall below 0 here, with all other rows kept.
    for row, name in zip(tableau.body, tableau.basic):
        if name >= tableau.n and row[c] > 0 and row[0] == 0:
            return False
    return True


def _blocking(tableau, c):
    # A row that keeps the loose slack of a column from falling; an exchange with it leads nowhere else.
    for r, name in enumerate(tableau.basic):
        if name >= tableau.n and tableau.body[r][c] > 0 and tableau.body[r][0] == 0:
            return r
    return None


def is_needed(tableau, number):
    """Whether a row doesn't follow from the other ones of a tableau, which stands at a point of the room."""
    name = tableau.n + number
    if name in tableau.loose:
        c = tableau.loose.index(name) + 1
        block = _blocking(tableau, c)
        if block is None:
            return True
        tableau.exchange(block, c)
    r = tableau.basic.index(name)
    stalled = 0
    while True:
        row = tableau.body[r]
        c = tableau.entering([-k for k in row], stalled > tableau.patience)
        if c == 0:
            return False
        block = tableau.blocker(c, r)
        if block is None:
            return True
        other = tableau.body[block]
        # Beyond the row there are points of all others, if it would be broken before one of these is tight.
        if row[c] * other[0] < row[0] * other[c]:
            return True
        stalled = 0 if other[0] else stalled + 1
        tableau.exchange(block, c)


def left_out(tableau, number):
    """Takes a row that follows, and whose slack is basic, out of a tableau."""
    r = tableau.basic.index(tableau.n + number)
    del tableau.body[r]
    del tableau.basic[r]


def needed_numbers(tableau, numbers):
    """The ascending numbers of the rows that stay, if each of some rows, in order, goes that follows from the rest."""
    stay = {}
    for number in numbers:
        if number in stay:
            continue
        if is_needed(tableau, number):
            stay[number] = True
        else:
            left_out(tableau, number)
        for c, name in enumerate(tableau.loose):
            if name >= tableau.n and _is_free(tableau, c + 1):
                stay[name - tableau.n] = True
    return sorted(stay)


def tightest(rows):
    """The rows made plain, but of those of one direction the tightest one alone, and none that is always."""
    found = {}
    for told in rows:
        row = plain_row(told)
        if is_always(row):
            continue
        shared = divisor(row[0])
        direction = row[0] if shared < 2 else tuple([k // shared for k in row[0]])
        if direction not in found or row[1] * found[direction][0] < found[direction][1][1] * shared:
            found[direction] = (shared, row)
    return [found[direction][1] for direction in found]


def base_of(rows):
    """The base of the equations that some rows tell, all of them tight everywhere."""
    found = reduced([a + (b,) for a, b in rows])
    return [(vector[:-1], vector[-1]) for vector in found]


def made_less_by(base, row):
    """What a row is made 0 to by a base, plain."""
    members, bound = row
    for a, b in base:
        head = head_of(a)
        k = members[head]
        if k:
            members = tuple([v * a[head] - k * w for v, w in zip(members, a)])
            bound = bound * a[head] - k * b
    return plain_row((members, bound))


def free_columns(n, base):
    """The columns without a head, ascending: their numbers tell a point of the flat of the base."""
    heads = [head_of(a) for a, _ in base]
    return [k for k in range(n) if k not in heads]


class Trimmed:
    """A room with points as its lean form tells it: the base of its equations and its sides, both ascending.

    Free are the columns without a head; the tableau is one of the sides' numbers there, at a point.
    """

    def __init__(self, n, base, sides, tableau):
        self.n = n
        self.base = base
        self.sides = sides
        self.tableau = tableau
        self.free = free_columns(n, base)

    def rows(self):
        """The ascending rows of the lean form."""
        found = list(self.sides)
        for a, b in self.base:
            found.append((a, b))
            found.append((tuple([-k for k in a]), -b))
        return sorted(found)


def shown_at(members, places):
    """The members at some places."""
    return tuple([members[k] for k in places])


def trimmed(room):
    """A room told by base and sides, None if it is bare."""
    n, told = room
    rows = tightest(told)
    if any(is_never(row) for row in rows):
        return None
    tableau = settled((n, rows))
    if tableau is None:
        return None
    base = base_of([rows[k] for k in always_tight(tableau)])
    if base:
        free = free_columns(n, base)
        rows = tightest([made_less_by(base, row) for row in rows])
        tableau = settled((len(free), [(shown_at(a, free), b) for a, b in rows]))
    stay = needed_numbers(tableau, list(range(len(rows))))
    return Trimmed(n, base, sorted([rows[k] for k in stay]), tableau)


def bare_rows(n):
    """The rows of the lean form of a bare room."""
    return (((0,) * n, -1),)
