"""Foe papers, which show that a standing cannot be led within the walls to the goal, and foes."""

from everygust.books import row_paper
from everygust.demands import first_out
from everygust.forms import is_row, is_tuple_of
from everygust.levels import levels_by
from everygust.rowpapers import is_row_paper, shown_fault
from everygust.rows import first_broken, next_of, slack
from everygust.solids import room_corners
from everygust.tiers import tier_below


def foe_paper(plant, walls, goal, left, x):
    """A right foe paper for a standing with so many steps left, None if there is none."""
    rooms = levels_by(((plant, "early"),) * left, walls, goal)
    # The last tier has the rows of walls and goal as they are told, not those of their lean form.
    rooms = ((walls[0], walls[1] + goal[1]),) + rooms[1:]
    number = first_broken(rooms[left], x)
    if number is None:
        return None
    tiers, rows = [], [rooms[left][1][number]]
    for below in reversed(rooms[:left]):
        entries = [(row,) + row_paper(plant, walls, below, row) for row in rows]
        tier, rows = tier_below(entries, below[1])
        tiers.append(tier)
    tiers.append(tuple([(row,) for row in rows]))
    return tuple(tiers)


def _is_entry(plant, walls, many, value):
    if not is_tuple_of(value, 4) or not is_row(walls[0], value[0]):
        return False
    return is_row_paper(plant, walls, many, value[1:])


def _is_foe_form(plant, walls, left, value):
    if not is_tuple_of(value, left + 1) or not all(type(tier) is tuple for tier in value) or not value[0]:
        return False
    for tier, below in zip(value, value[1:]):
        if not all(_is_entry(plant, walls, len(below), entry) for entry in tier):
            return False
    return all(is_tuple_of(entry, 1) and is_row(walls[0], entry[0]) for entry in value[left])


def _tiers_fault(plant, walls, tiers):
    for number, (tier, below) in enumerate(zip(tiers, tiers[1:])):
        rows = [entry[0] for entry in below]
        for k, entry in enumerate(tier):
            fault = shown_fault(plant, walls, rows, entry[0], entry[1:])
            if fault is not None:
                return (fault[0], number, k) + fault[1:]
    return None


def judge_foe(plant, walls, goal, left, x, value):
    """None if a value, which may be anything, is a right foe paper for a standing; otherwise its first fault."""
    if not _is_foe_form(plant, walls, left, value):
        return ("form",)
    if slack(value[0][0][0], x)[0] >= 0:
        return ("there",)
    fault = _tiers_fault(plant, walls, value)
    if fault is not None:
        return fault
    for k, (row,) in enumerate(value[left]):
        if row not in walls[1] and row not in goal[1]:
            return ("last", k)
    return None


class PaperFoe:
    """A foe by a foe paper."""

    def __init__(self, plant, paper):
        self.plant = plant
        self.paper = paper
        self.least = room_corners(plant[5])[0]

    def blow(self, left, x, u):
        """The gust by which a row of the next tier is broken, or the least corner if none is told for that."""
        entry = self._broken_entry(left, x)
        if entry is not None:
            below = self.paper[len(self.paper) - left]
            for number, _, gust in entry[1]:
                if slack(below[number][0], next_of(self.plant, x, u, gust))[0] < 0:
                    return gust
        return self.least

    def _broken_entry(self, left, x):
        # The first entry that tells gusts for so many steps left and whose row is broken, None if there is none.
        if not 0 < left < len(self.paper):
            return None
        for entry in self.paper[len(self.paper) - 1 - left]:
            if slack(entry[0], x)[0] < 0:
                return entry
        return None


class LevelFoe:
    """A foe by rooms, such as levels: it blows what leads out of the room with one step less left."""

    def __init__(self, plant, levels):
        self.plant = plant
        self.levels = tuple(levels)
        self.gusts = room_corners(plant[5])

    def blow(self, left, x, u):
        """The least corner behind which the next standing is out of the room number left - 1, or the least one."""
        found = first_out(self.plant, self.gusts, x, u, self.levels[left - 1])
        return self.gusts[0] if found is None else found


class CallFoe:
    """A foe that asks a function."""

    def __init__(self, call):
        self.call = call

    def blow(self, left, x, u):
        """What the function blows."""
        action = self.call
        return action(left, x, u)
