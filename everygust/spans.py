"""The room of all means of some points: by the flat that they span and the cone of all rows that let them by."""

from everygust.cones import cone_of
from everygust.echelon import nought_with
from everygust.means import above_one
from everygust.trimming import Trimmed, base_of


def _told_free(vector, free):
    return (vector[0],) + tuple([vector[k + 1] for k in free])


def _row_on(n, free, edge):
    # What an edge of the cone tells is that its first number and the others times the point make 0 or more.
    members = [0] * n
    for k, number in zip(free, edge[1:]):
        members[k] = -number
    return (tuple(members), edge[0])


def flat_of(n, vectors):
    """The base of the equations that hold at all points, told as above_one tells them."""
    found = nought_with(vectors, n + 1)
    return base_of([(tuple([-k for k in vector[1:]]), vector[0]) for vector in found])


class Span:
    """The hull of at least one point: its lean form, and at which points each side, in order, is tight.

    Binary figure number k of a member of met is 1 if the side is tight at point number k of told.
    """

    def __init__(self, n, points):
        seen, told = {}, []
        for number, point in enumerate(points):
            vector = above_one(point)
            if vector not in seen:
                seen[vector] = True
                told.append((number, vector))
        # Of equal points the first one stands for all.
        self.numbers = [number for number, _ in told]
        vectors = [vector for _, vector in told]
        base = flat_of(n, vectors)
        trim = Trimmed(n, base, [], None)
        pairs = []
        if trim.free:
            for edge, met in cone_of([_told_free(vector, trim.free) for vector in vectors]):
                pairs.append((_row_on(n, trim.free, edge), met))
        pairs = sorted(pairs)
        trim.sides = [row for row, _ in pairs]
        self.met = [met for _, met in pairs]
        self.trim = trim
        self.vectors = vectors

    def corner_numbers(self):
        """The ascending numbers of the points that are corners, of equal ones the first."""
        found = []
        for k, number in enumerate(self.numbers):
            around = [met for met in self.met if met >> k & 1]
            common = (1 << len(self.numbers)) - 1
            for met in around:
                common &= met
            if common == 1 << k:
                found.append(number)
        return found
