"""Whether one wish leads all points of a slice into a room, whatever gusts blow, and which of them it does not lead."""

from everygust.demands import Demands
from everygust.regions import region_point
from everygust.vectors import dot, whole


class Leading:
    """What the rows of a goal ask of standings and wishes ahead of all gusts, for a plant."""

    def __init__(self, plant, goal):
        self.tightened = Demands(plant, goal).tightened

    def broken(self, vectors, u):
        """The first row that some of the points, told by vectors as corners are, break behind a wish; None if none."""
        numbers, den = whole(u)
        for told, by_wish, bound, scale, gust in self.tightened:
            left = bound * den - dot(by_wish, numbers)
            if any([dot(told, vector[1:]) * den > left * vector[0] for vector in vectors]):
                return (told, by_wish, bound, scale, gust)
        return None

    def strayed(self, region, row, u):
        """The pair of a point in a region, and a gust, that break such a row behind a wish."""
        numbers, den = whole(u)
        told, by_wish, bound = row[:3]
        # Such a row is kept strictly, so it is not made plain.
        away = (tuple([-k * den for k in told]), dot(by_wish, numbers) - bound * den)
        n, rows, strict = region
        return (region_point((n, rows, strict + (away,))), row[4])
