"""Helm papers, which show that a standing can be led within the walls to the goal, and helms."""

from everygust.demands import Demands
from everygust.errors import TooGreat
from everygust.forms import is_point, is_tuple_of
from everygust.fractions import times, total
from everygust.levels import levels_by
from everygust.rows import is_in, next_of
from everygust.solids import room_corners
from everygust.solving import mixed
from everygust.wishes import a_wish, good_wish

MOST_PAPERS = 2000


def refuse_many(corners, left):
    """Refuses helm papers with too many papers within them; so many corners lead to new ones at each step."""
    many, tier = 1, 1
    for _ in range(left):
        tier *= corners
        many += tier
    if many > MOST_PAPERS:
        raise TooGreat()


def _paper(demands, gusts, left, x):
    # A helm paper for a standing of a level; demands has those of the levels below it, by the steps left behind them.
    if left == 0:
        return ()
    told = demands[left - 1]
    u = good_wish(told, x)
    return (u, tuple([_paper(demands, gusts, left - 1, next_of(told.plant, x, u, gust)) for gust in gusts]))


def helm_paper(plant, walls, goal, left, x):
    """A right helm paper for a standing with so many steps left, None if there is none."""
    gusts = room_corners(plant[5])
    refuse_many(len(gusts), left)
    rooms = levels_by(((plant, "early"),) * left, walls, goal)
    if not is_in(rooms[left], x):
        return None
    return _paper([Demands(plant, room) for room in rooms[:left]], gusts, left, x)


def _form_fault(m, many, left, value, path):
    # The path of the first paper that has not its form, None if all have.
    if left == 0:
        return None if is_tuple_of(value, 0) else path
    if not is_tuple_of(value, 2) or not is_point(m, value[0]) or not is_tuple_of(value[1], many):
        return path
    for k, paper in enumerate(value[1]):
        found = _form_fault(m, many, left - 1, paper, path + (k,))
        if found is not None:
            return found
    return None


class HelmJudge:
    """Looks through helm papers in form for one plant, walls and goal."""

    def __init__(self, plant, walls, goal, gusts):
        self.plant = plant
        self.walls = walls
        self.goal = goal
        self.gusts = gusts

    def fault(self, x, paper, path):
        """The first fault of a paper for a standing, a paper ahead of those within it; None if there is none."""
        if not is_in(self.walls, x):
            return ("wall", path)
        if not paper:
            return None if is_in(self.goal, x) else ("goal", path)
        if not is_in(self.plant[4], paper[0]):
            return ("wish", path)
        for k, gust in enumerate(self.gusts):
            found = self.fault(next_of(self.plant, x, paper[0], gust), paper[1][k], path + (k,))
            if found is not None:
                return found
        return None


def judge_helm(plant, walls, goal, left, x, value):
    """None if a value, which may be anything, is a right helm paper for a standing; otherwise its first fault."""
    gusts = room_corners(plant[5])
    refuse_many(len(gusts), left)
    path = _form_fault(plant[4][0], len(gusts), left, value, ())
    if path is not None:
        return ("form", path)
    return HelmJudge(plant, walls, goal, gusts).fault(x, value, ())


def _standings(plant, gusts, paper, x):
    # For each number of steps left the pairs (standing, wish) within a helm paper; the greatest number comes first.
    found, tier = [], [(x, paper)]
    while tier[0][1]:
        found.append([(standing, told[0]) for standing, told in tier])
        behind = []
        for standing, (u, papers) in tier:
            for gust, told in zip(gusts, papers):
                behind.append((next_of(plant, standing, u, gust), told))
        tier = behind
    return found


class TreeHelm:
    """A helm by a helm paper for a standing: it mixes what is told at the standings within the paper."""

    def __init__(self, plant, paper, x):
        self.tiers = _standings(plant, room_corners(plant[5]), paper, x)
        self.m = plant[4][0]

    def tell(self, left, x):
        """A mean of the wishes told with so many steps left, None if the standing is no mean of those there."""
        if left > len(self.tiers):
            return None
        tier = self.tiers[-left]
        answer = mixed([standing + ((1, 1),) for standing, _ in tier], x + ((1, 1),))
        if answer[0] == "parted":
            return None
        wishes = [u for _, u in tier]
        return tuple([total([times(weight, u[j]) for weight, u in zip(answer[1], wishes)]) for j in range(self.m)])


class LevelHelm:
    """A helm by rooms, such as levels: it tells a wish that leads into the room with one step less left."""

    def __init__(self, plant, levels):
        self.plant = plant
        self.levels = tuple(levels)

    def tell(self, left, x):
        """A good wish for the room number left - 1, or the least corner of the wishes' room if there is none."""
        found = a_wish(self.plant, self.levels[left - 1], x)
        return room_corners(self.plant[4])[0] if found is None else found


class CallHelm:
    """A helm that asks a function."""

    def __init__(self, call):
        self.call = call

    def tell(self, left, x):
        """What the function tells."""
        action = self.call
        return action(left, x)
