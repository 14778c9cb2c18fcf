"""Modes: plants one of which stands for the plant at each step, told by the foe, heard or hid, or ahead by the helm."""

from everygust.backing import Backing, Pairs
from everygust.books import paper_over
from everygust.errors import TooGreat
from everygust.forms import is_fraction, is_number_of, is_point, is_tuple_of
from everygust.fractions import is_less, plus
from everygust.keeping import peeled
from everygust.levels import levels_by
from everygust.limits import few_lean
from everygust.modepairs import ModePairs, wish_of_all
from everygust.papers import added_pair
from everygust.rowpapers import parts_sums, summed
from everygust.rows import is_in, joined
from everygust.solids import corners_if_any
from everygust.steps import leads_out
from everygust.vectors import divided
from everygust.weights import bare_paper, is_bare
from everygust.wishes import a_wish

MOST_TRAINS = 64


def _all_wishes(modes):
    # The rows of all modes' wishes, mode by mode.
    return (modes[0][4][0], tuple([row for plant in modes for row in plant[4][1]]))


def common_fault(modes):
    """None if modes have common wishes, otherwise the first reason why they have none."""
    for m, plant in enumerate(modes):
        if plant[4][0] != modes[0][4][0]:
            return ("many", m)
    bare = bare_paper(_all_wishes(modes))
    return None if bare is None else ("bare", bare)


def common_wishes(modes):
    """The lean room of the wishes that are wishes of all modes."""
    return few_lean(_all_wishes(modes))


def mode_back(modes, kind, walls, room):
    """The lean room of the points of the walls that are in back of a room by a kind."""
    if kind == "hid":
        return Backing(ModePairs(modes, kind, walls, room)).room()
    found = [Backing(Pairs(plant, walls, room)).room() for plant in modes]
    return few_lean((walls[0], tuple([row for one in found for row in one[1]])))


def mode_levels(modes, kind, walls, goal, many):
    """The tuple of the levels 0 to many."""
    found = [few_lean(joined(walls, goal))]
    for _ in range(many):
        found.append(mode_back(modes, kind, walls, found[-1]))
    return tuple(found)


def mode_row_paper(modes, kind, walls, below, row):
    """A row paper over a room below that shows a row, None if there is none."""
    return paper_over(ModePairs(modes, kind, walls, below), row)


def _is_weights_of(room, value):
    # As many fractions as a room has rows, of any sign.
    return is_point(len(room[1]), value)


def _is_mode_part(modes, below, value):
    if not is_tuple_of(value, 4) or not is_number_of(value[0], len(modes)):
        return False
    if not is_number_of(value[1], len(below[1])) or not is_fraction(value[2]):
        return False
    return is_point(modes[value[0]][5][0], value[3])


def _is_mode_paper(modes, walls, below, value):
    if not is_tuple_of(value, 3) or type(value[0]) is not tuple:
        return False
    if not all(_is_mode_part(modes, below, part) for part in value[0]):
        return False
    if not is_tuple_of(value[1], len(modes)) or not _is_weights_of(walls, value[2]):
        return False
    return all(_is_weights_of(plant[4], nu) for plant, nu in zip(modes, value[1]))


def _terms_fault(modes, value):
    # The first part or weight that is beyond its room, or not above 0, or below 0.
    parts, nus, lam = value
    for q, part in enumerate(parts):
        if part[2][0] <= 0:
            return ("part", q)
    for q, (m, _, _, gust) in enumerate(parts):
        if not is_in(modes[m][5], gust):
            return ("gust", q)
    for m, nu in enumerate(nus):
        for j, weight in enumerate(nu):
            if weight[0] < 0:
                return ("weight", m, j)
    for j, weight in enumerate(lam):
        if weight[0] < 0:
            return ("wall", j)
    return None


def _turns_fault(kind, turns):
    # The first coordinate of a wish in which what is made of it isn't nought.
    if kind == "hid":
        found = turns[0]
        for turn in turns[1:]:
            found = summed(found, turn)
        turns = [found]
    for m, turn in enumerate(turns):
        for j, number in enumerate(turn):
            if number[0]:
                return ("wish", m, j)
    return None


def judge_mode_row(modes, kind, walls, below, row, value):
    """None if a value, which may be anything, is a row paper that shows a row; otherwise its first fault."""
    if not _is_mode_paper(modes, walls, below, value):
        return ("form",)
    fault = _terms_fault(modes, value)
    if fault is not None:
        return fault
    parts, nus, lam = value
    form, bound = added_pair(walls, lam)
    turns = []
    for m, (plant, nu) in enumerate(zip(modes, nus)):
        told = parts_sums(plant, below[1], [part[1:] for part in parts if part[0] == m], nu)
        form, bound = summed(form, told[0]), plus(bound, told[2])
        turns.append(told[1])
    fault = _turns_fault(kind, turns)
    if fault is not None:
        return fault
    for j, (number, due) in enumerate(zip(form, divided(row[0], 1))):
        if number != due:
            return ("row", j)
    return ("sum",) if is_less((row[1], 1), bound) else None


def mode_wish(modes, kind, room, x):
    """A mode wish that leads a standing into a room, None if there is none."""
    if kind == "hid":
        return wish_of_all(modes, room, x)
    found = [a_wish(plant, room, x) for plant in modes]
    return None if any(wish is None for wish in found) else tuple(found)


def judge_mode_wish(modes, kind, room, x, value):
    """None if a value, which may be anything, is a mode wish that leads there; otherwise its first fault."""
    wishes = (value,) * len(modes) if kind == "hid" else value
    if not is_tuple_of(wishes, len(modes)):
        return ("form",)
    if not all(is_point(plant[4][0], wish) for plant, wish in zip(modes, wishes)):
        return ("form",)
    for m, (plant, wish) in enumerate(zip(modes, wishes)):
        if not is_in(plant[4], wish):
            return ("wish", m)
    for m, wish in enumerate(wishes):
        gust = mode_answer(modes, room, x, m, wish)
        if gust is not None:
            return ("gust", m, gust)
    return None


def mode_answer(modes, room, x, m, u):
    """The least corner of a mode's gusts that leads a standing out of a room by a wish, or by what stands for it."""
    return leads_out(modes[m], x, u, room)


def mode_keep_fault(modes, kind, walls, room):
    """None if a bounded room is kept within walls; otherwise its least corner beyond them, or not in back of it."""
    behind = mode_back(modes, kind, walls, room)
    corners = corners_if_any(room)
    for corner in corners:
        if not is_in(walls, corner):
            return ("wall", corner)
    for corner in corners:
        if not is_in(behind, corner):
            return ("lost", corner)
    return None


def mode_layers(modes, kind, walls, most):
    """The pair of a word and the layers, as for one plant."""
    return peeled(walls, most, lambda below: mode_back(modes, kind, walls, below))


def _counts(modes, lead, many):
    # For each number of members up to many the list of how many trains of a lead begin with each mode.
    found = [[1] * len(modes)]
    for _ in range(many - 1):
        ahead = found[-1]
        found.append([sum([ahead[later] for m, later in lead if m == one]) for one in range(len(modes))])
    return found


def _go_on(counts, lead, train, many):
    # The trains of so many members that begin with one, ascending; only beginnings of such are gone on with.
    if len(train) == many:
        return [train]
    left = counts[many - len(train) - 1]
    found = []
    for later, count in enumerate(left):
        if count and (not train or (train[-1], later) in lead):
            found.extend(_go_on(counts, lead, train + (later,), many))
    return found


def trains(modes, lead, many):
    """The ascending list of the trains of a lead of so many members."""
    counts = _counts(modes, lead, many)
    if sum(counts[-1]) > MOST_TRAINS:
        raise TooGreat()
    return _go_on(counts, lead, (), many)


def train_level(modes, walls, goal, train):
    """The standings from which the helm can lead to the goal with modes one after another."""
    return levels_by(tuple([(modes[m], "early") for m in reversed(train)]), walls, goal)[-1]


class TrainLevels:
    """The train levels of trains, each worked out once: trains that end alike share what they have in common."""

    def __init__(self, modes, walls, goal):
        self.modes = modes
        self.walls = walls
        self.goal = goal
        self.known = {}

    def level(self, train):
        """The train level of a train."""
        if train not in self.known:
            self.known[train] = self._worked_out(train)
        return self.known[train]

    def _worked_out(self, train):
        if not train:
            return few_lean(joined(self.walls, self.goal))
        return Backing(Pairs(self.modes[train[0]], self.walls, self.level(train[1:]))).room()


def train_book(modes, lead, walls, goal, many):
    """The tuple of the pairs (train, level) of the trains of a lead of so many members whose level has points."""
    every = trains(modes, lead, many)
    told = TrainLevels(modes, walls, goal)
    found = [(train, told.level(train)) for train in every]
    return tuple([(train, room) for train, room in found if not is_bare(room)])


def best_train(modes, lead, walls, goal, many, x):
    """The least train of a lead of so many members whose level has a standing, None if there is none."""
    every = trains(modes, lead, many)
    told = TrainLevels(modes, walls, goal)
    for train in every:
        if is_in(told.level(train), x):
            return train
    return None
