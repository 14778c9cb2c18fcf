"""What rooms come to in a step of a plant, and the standings from which a step leads into a room."""

from everygust.demands import Demands, column_sums, first_out, strongest
from everygust.images import added, before, image, shrunk
from everygust.limits import bounded_tableau, few_lean
from everygust.rows import image_of
from everygust.shadows import shadow
from everygust.solids import room_corners
from everygust.vectors import dot, whole


def _noughts(plant):
    return ((0, 1),) * len(plant[0])


def _blown(plant):
    # All that gusts put to a standing.
    return image(plant[2], _noughts(plant), plant[5])


def _unwished(plant):
    # All that wishes take from a standing.
    turned = tuple([tuple([(-p, q) for p, q in line]) for line in plant[1]])
    return image(turned, _noughts(plant), plant[4])


def come_by(plant, room, u):
    """What a room comes to by a wish, or what stands for it, and any gust."""
    bounded_tableau(room)
    return added(image(plant[0], image_of(plant[1], u, plant[3]), room), _blown(plant))


def come(plant, room):
    """What a room comes to by any wish and any gust."""
    bounded_tableau(room)
    blown = added(image(plant[0], plant[3], room), _blown(plant))
    return added(blown, image(plant[1], _noughts(plant), plant[4]))


def greatest_gust(plant, form):
    """The greatest worth that a gust gives to a form, and the least corner of the gusts' room that does."""
    return strongest(column_sums(form, plant[2], plant[5][0]), room_corners(plant[5]))


def landing(plant, room):
    """Where a standing must be taken without wish and gust, for a wish told ahead to lead into a room."""
    bounded_tableau(room)
    return added(_unwished(plant), shrunk(room, _blown(plant)))


def late_landing(plant, room):
    """Where a standing must be taken without wish and gust, for a wish told late to lead into a room."""
    bounded_tableau(room)
    return shrunk(added(room, _unwished(plant)), _blown(plant))


def back_by(plant, room, u):
    """The standings that a wish, or what stands for it, leads into a room."""
    numbers, denominator = whole(u)
    rows = []
    for row in Demands(plant, room).tightened:
        told, by_wish, bound = row[:3]
        rows.append((tuple([k * denominator for k in told]), bound * denominator - dot(by_wish, numbers)))
    return few_lean((room[0], tuple(rows)))


def back(plant, room):
    """The standings that some wish, told ahead of the gust, leads into a room."""
    return before(room[0], plant[0], plant[3], landing(plant, room))


def back_mixed(plant, room, mixed):
    """The standings that some wish leads into a room, such that both together are in a mixed room."""
    pairs = (mixed[0], tuple(Demands(plant, room).pair_rows(mixed[1])))
    return shadow(pairs, tuple(range(room[0])))


def late_back(plant, room):
    """The standings that some wish, told behind the gust, leads into a room."""
    return before(room[0], plant[0], plant[3], late_landing(plant, room))


def leads(plant, x, u, room):
    """Whether a wish, or what stands for it, leads a standing into a room."""
    return leads_out(plant, x, u, room) is None


def leads_out(plant, x, u, room):
    """The least corner of the gusts' room that leads a standing out of a room, None if there is none."""
    return first_out(plant, room_corners(plant[5]), x, u, room)
