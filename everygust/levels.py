"""Levels: the standings from which a craft can be led within walls to a goal, by the number of steps left."""

from everygust.backing import Backing, Pairs
from everygust.limits import bounded_tableau, few_lean
from everygust.rows import is_in, joined
from everygust.steps import come, late_back


def _next_level(plant, word, walls, below):
    if word == "early":
        return Backing(Pairs(plant, walls, below)).room()
    return few_lean(joined(walls, late_back(plant, below)))


def levels_by(course, walls, goal):
    """The tuple of the levels of a course, from 0 on."""
    found = [few_lean(joined(walls, goal))]
    for plant, word in course:
        found.append(_next_level(plant, word, walls, found[-1]))
    return tuple(found)


def levels(plant, walls, goal, many):
    """The tuple of the levels 0 to many of a plant, each wish told ahead of the gust."""
    return levels_by(((plant, "early"),) * many, walls, goal)


def levels_with(rooms, x):
    """The ascending tuple of the numbers of those of some rooms that have a point."""
    return tuple([number for number, room in enumerate(rooms) if is_in(room, x)])


def last_chance(plant, walls, goal, many, x):
    """The greatest number of at most many whose level has a standing, None if none has it."""
    found = levels_with(levels(plant, walls, goal, many), x)
    return found[-1] if found else None


def come_to(plant, room, many):
    """The tuple of the rooms that a room comes to behind 0 to many steps."""
    if many:
        bounded_tableau(room)
    found = [few_lean(room)]
    for _ in range(many):
        found.append(come(plant, found[-1]))
    return tuple(found)
