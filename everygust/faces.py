"""Faces of rooms, told by the ascending tuples of the numbers of their corners."""

from everygust.lattice import face_around, figures, lattice
from everygust.rows import slack
from everygust.solids import solid_of


def _told(solid, level):
    many = len(solid.points)
    return sorted([figures(face, many) for face in level])


def faces(room):
    """The list, for the dimensions 0 to the room's, of the ascending lists of the faces."""
    solid = solid_of(room)
    return [_told(solid, level) for level in lattice(solid)]


def edges(room):
    """The ascending list of the edges."""
    solid = solid_of(room)
    return _told(solid, lattice(solid)[1]) if solid.dimension else []


def face_rows(room, face):
    """The ascending list of the numbers of the lean form's rows that are tight at all corners of a face."""
    solid = solid_of(room)
    found = []
    for number, row in enumerate(solid.trim.rows()):
        if all(slack(row, solid.points[k])[0] == 0 for k in face):
            found.append(number)
    return found


def face_with(room, numbers):
    """The face with the fewest corners that has all corners with some numbers."""
    solid = solid_of(room)
    return figures(face_around(solid, sum([1 << k for k in numbers])), len(solid.points))
