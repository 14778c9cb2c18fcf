"""Sights: which looks standings may give, and which standings and rooms are told apart by them."""

from everygust.fractions import is_less, minus
from everygust.forms import is_point, is_told, is_weights
from everygust.gathered import Gathered, is_number, weighed
from everygust.limits import few_lean
from everygust.outlines import Outline
from everygust.refusals import refuse_unsound, sound_tableau
from everygust.rows import image_of, is_in
from everygust.settled import settled, way_of
from everygust.solving import greatest_at
from everygust.unknowns import apart_told, numbers_told, taken_by, unknowns_told
from everygust.vectors import divided
from everygust.views import SumView, shown_view, taken_view


def right_sight(sight):
    """None if a sight is right, otherwise whether its slips have no point, or are unbounded."""
    tableau = settled(sight[1])
    if tableau is None:
        return "bare"
    return None if way_of(tableau) is None else "far"


def _seen(sight, x):
    # What a standing gives without a slip.
    return image_of(sight[0], x, ((0, 1),) * len(sight[0]))


def may_give(sight, x, y):
    """Whether a standing may give a look."""
    return is_in(sight[1], tuple([minus(k, j) for k, j in zip(y, _seen(sight, x))]))


def looks_of(sight, room):
    """The lean room of the looks that the standings of a room may give."""
    tableau = sound_tableau(room)
    lines, slips = sight
    s = len(lines)
    seen = taken_view(tableau, lines, ((0, 1),) * s)
    return Outline(SumView(seen, shown_view(settled(slips), list(range(s))))).room()


def slip_told(sight, x, y, size):
    """The slip by which a standing gives a look, both told by unknowns."""
    lines = sight[0]
    return apart_told(y, taken_by(lines, x, numbers_told(size, ((0, 1),) * len(lines))))


def giving_rows(sight, room, y):
    """The room, not lean, of the standings of a room that may give a look."""
    n = room[0]
    asked = Gathered(n)
    asked.ask(sight[1], slip_told(sight, unknowns_told(n, 0, n), numbers_told(n, y), n))
    return (n, room[1] + tuple(asked.rows))


def giving(sight, room, y):
    """The lean room of the standings of a room that may give a look, perhaps without points."""
    refuse_unsound((room,))
    return few_lean(giving_rows(sight, room, y))


def told_apart(sight, x, z):
    """Whether there is no look that two standings both may give."""
    s = len(sight[0])
    asked, y = Gathered(s), unknowns_told(s, 0, s)
    for point in (x, z):
        asked.ask(sight[1], slip_told(sight, numbers_told(s, point), y, s))
    return asked.tableau().settle() is not None


class Pairing:
    """The room of all (x, z, y): standings x and z of two rooms, and a look y that both may give."""

    def __init__(self, sight, room, other):
        self.n, self.s = room[0], len(sight[0])
        self.size = 2 * self.n + self.s
        x, z = unknowns_told(self.size, 0, self.n), unknowns_told(self.size, self.n, self.n)
        y = unknowns_told(self.size, 2 * self.n, self.s)
        self.rooms = [room, other, sight[1], sight[1]]
        self.points = [x, z, slip_told(sight, x, y, self.size), slip_told(sight, z, y, self.size)]

    def gathered(self):
        """The rows of all four."""
        found = Gathered(self.size)
        for room, point in zip(self.rooms, self.points):
            found.ask(room, point)
        return found

    def triple(self, point):
        """The triple (x, z, y) that a point tells."""
        return (point[:self.n], point[self.n:2 * self.n], point[2 * self.n:])


def parted(sight, room, other):
    """Two standings of two rooms and a look that both may give, or weights that show that there are none."""
    refuse_unsound((room, other))
    pairing = Pairing(sight, room, other)
    asked = pairing.gathered()
    tableau = asked.tableau()
    bare = tableau.settle()
    if bare is not None:
        return ("apart",) + tuple(asked.shared(bare))
    numbers, denominator = tableau.spot()
    return ("both",) + pairing.triple(divided(numbers, denominator))


def _both_fault(sight, room, other, value):
    _, x, z, y = value
    if not is_in(room, x):
        return ("room",)
    if not is_in(other, z):
        return ("other",)
    return None if may_give(sight, x, y) and may_give(sight, z, y) else ("look",)


def judge_parted(sight, room, other, value):
    """None if a value, which may be anything, is one of the two that parted tells; otherwise its first fault."""
    refuse_unsound((room, other))
    n, s = room[0], len(sight[0])
    if is_told(value, "both", 4) and is_point(n, value[1]) and is_point(n, value[2]) and is_point(s, value[3]):
        return _both_fault(sight, room, other, value)
    pairing = Pairing(sight, room, other)
    if not is_told(value, "apart", 5):
        return ("form",)
    if not all(is_weights(len(one[1]), weights) for one, weights in zip(pairing.rooms, value[1:])):
        return ("form",)
    found = weighed(list(zip(pairing.rooms, pairing.points, value[1:])), pairing.size)
    return ("sum",) if not is_number(found) or is_less(found[-1], (1, 1)) else None


def _widest(sight, room, form):
    # The greatest difference of a form's worths at two standings of a room that are not told apart, and where it is.
    refuse_unsound((room,))
    pairing = Pairing(sight, room, room)
    tableau = pairing.gathered().tableau()
    tableau.settle()
    away = tuple(form) + tuple([minus((0, 1), k) for k in form]) + ((0, 1),) * pairing.s
    _, value, point, _ = greatest_at(tableau, away)
    return (value, pairing.triple(point))


def spread(sight, room, form):
    """The greatest difference of a form's worths at two standings of a room that are not told apart."""
    return _widest(sight, room, form)[0]


def spread_pair(sight, room, form):
    """Two standings of a room that show its spread along a form, and a look that both may give."""
    return _widest(sight, room, form)[1]
