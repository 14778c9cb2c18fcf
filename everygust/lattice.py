"""The faces of a room, each told by the binary figures of an integer, of which number k tells whether corner k is in.

For each dimension there is a dict from the faces to their own facets.
"""


def whole_face(solid):
    """The room itself as a face."""
    return (1 << len(solid.points)) - 1


def figures(number, many):
    """The ascending tuple of the numbers of the binary figures that are 1."""
    return tuple([k for k in range(many) if number >> k & 1])


def _greatest_ones(faces):
    # Those that lie in no other one.
    found = {}
    for face in faces:
        if face and not any(face != other and face & other == face for other in faces):
            found[face] = True
    return list(found)


def lattice(solid):
    """The list, for the dimensions 0 to that of the room, of the dicts of its faces."""
    room = whole_face(solid)
    facets = [solid.side_corners(number) for number in range(len(solid.trim.sides))]
    levels = [{room: facets if solid.dimension else []}]
    while len(levels) <= solid.dimension:
        lower = {}
        is_last = len(levels) == solid.dimension
        for around in levels[-1].values():
            for facet in around:
                if facet not in lower:
                    # A facet of a facet lies in one more facet of the same face.
                    lower[facet] = [] if is_last else _greatest_ones([facet & one for one in around if one != facet])
        levels.append(lower)
    return list(reversed(levels))


def face_around(solid, corners):
    """The face with the fewest corners that has all of some, told and returned by binary figures."""
    common = -1
    for k in figures(corners, len(solid.points)):
        common &= solid.met[k]
    return sum([1 << k for k, met in enumerate(solid.met) if met & common == common])
