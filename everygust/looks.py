"""One wish for each look: whether each sight by itself has a wish that does for all standings that may go with it."""

from everygust.blind import block_sum_fault, is_block, serving_all, stray_gust, stray_standing
from everygust.demands import column_sums
from everygust.errors import Bare
from everygust.forms import is_point, is_tuple_of, is_weights
from everygust.fractions import is_less, plus
from everygust.gathered import is_number, weighed
from everygust.refusals import refuse_unsound
from everygust.rows import is_in, reach
from everygust.sights import giving_rows, may_give, slip_told
from everygust.solids import room_corners
from everygust.ties import Sums, Tie, least_sets, refuse_many_rows
from everygust.unknowns import form_sum, form_times, unknowns_told, worth_told
from everygust.vectors import divided
from everygust.weights import is_bare


def serving(plant, sight, room, target, y):
    """The lean room of the wishes that serve a look, from a room into another one."""
    refuse_unsound((room,))
    seen = giving_rows(sight, room, y)
    if is_bare(seen):
        raise Bare()
    refuse_unsound((target,))
    return serving_all(plant, seen, target)


def ties_of(plant, target):
    """The ascending list of the least sets for a target."""
    refuse_many_rows(plant, (target,))
    refuse_unsound((target,))
    return least_sets(plant, target)


def _unserved(plant, sight, room, target):
    # A tie whose sum can be above its bound, with what shows it; None if there is none.
    sums = Sums(plant, sight, room)
    for pairs in least_sets(plant, target):
        tie = Tie(plant, target, pairs)
        found = sums.at_most(tie)
        if is_less(tie.bound, found[0]):
            return (tie, found)
    return None


def look_block(plant, sight, room, target):
    """A look block, None if each look of a room has a wish that serves it into a target."""
    refuse_many_rows(plant, (target,))
    refuse_unsound((room, target))
    unserved = _unserved(plant, sight, room, target)
    if unserved is None:
        return None
    tie, (_, y, standings, gusts, _) = unserved
    parts = []
    for k, (_, share), x, gust in zip(tie.numbers, tie.rows, standings, gusts):
        parts.append((k, (share, 1), x, gust))
    return (y, tuple(parts), tie.nu)


def look_tallies(plant, sight, room, target):
    """Look tallies, None if some look of a room has no wish that serves it into a target."""
    refuse_many_rows(plant, (target,))
    refuse_unsound((room, target))
    sums, found = Sums(plant, sight, room), []
    for pairs in least_sets(plant, target):
        tie = Tie(plant, target, pairs)
        told = sums.at_most(tie)
        if is_less(tie.bound, told[0]):
            return None
        found.append(told[4])
    return tuple(found)


def _is_look_block(plant, sight, target, value):
    if not is_tuple_of(value, 3) or not is_point(len(sight[0]), value[0]):
        return False
    if not is_block(plant, target, value[1], value[2]):
        return False
    return len(value[1]) + len([weight for weight in value[2] if weight[0]]) <= plant[4][0] + 1


def judge_look_block(plant, sight, room, target, value):
    """None if a value, which may be anything, is a look block; otherwise its first fault."""
    refuse_unsound((room, target))
    if not _is_look_block(plant, sight, target, value):
        return ("form",)
    y, parts, nu = value
    fault = stray_standing(room, parts)
    if fault is not None:
        return fault
    for k, part in enumerate(parts):
        if not may_give(sight, part[2], y):
            return ("look", k)
    fault = stray_gust(plant, parts)
    return block_sum_fault(plant, room, target, parts, nu) if fault is None else fault


def _is_triple(plant, sight, room, value):
    if not is_tuple_of(value, 3):
        return False
    return all(is_weights(len(one[1]), weights) for one, weights in zip((room, sight[1], plant[5]), value))


class TallyJudge:
    """Looks through the triples of look tallies for one plant, sight and room."""

    def __init__(self, plant, sight, room):
        self.plant = plant
        self.sight = sight
        self.room = room
        self.sums = Sums(plant, sight, room)

    def is_right(self, tie, triples):
        """Whether triples of weights, in form, show that the sum of a tie is never above its bound."""
        many, k = len(tie.rows), self.plant[5][0]
        begin = self.sums.s + many * self.sums.n
        size = begin + many * k
        y, standings = self.sums.points(many, size)
        asked, told = [], ((0, 1),) * (size + 1)
        for j, ((row, share), (ons, seens, blows)) in enumerate(zip(tie.rows, triples)):
            x, gust = standings[j], unknowns_told(size, begin + j * k, k)
            asked.extend([(self.room, x, ons), (self.plant[5], gust, blows)])
            asked.append((self.sight[1], slip_told(self.sight, x, y, size), seens))
            told = form_sum(told, form_times((share, 1), self._reached(row[0], x, gust, size)))
        found = weighed(asked, size)
        found = form_sum(found, form_times((-1, 1), told))
        return is_number(found) and plus(found[-1], tie.bound)[0] >= 0

    def _reached(self, members, x, gust, size):
        # What a row makes of the next standing behind no wish.
        form = divided(members, 1)
        found = worth_told(column_sums(form, self.plant[0], self.sums.n), x, size)
        found = form_sum(found, worth_told(column_sums(form, self.plant[2], self.plant[5][0]), gust, size))
        return found[:-1] + (plus(found[-1], reach((members, 0), self.plant[3])),)


def judge_look_tallies(plant, sight, room, target, value):
    """None if a value, which may be anything, is look tallies; otherwise its first fault."""
    refuse_many_rows(plant, (target,))
    refuse_unsound((room, target))
    ties = [Tie(plant, target, pairs) for pairs in least_sets(plant, target)]
    if not is_tuple_of(value, len(ties)):
        return ("form",)
    for tie, triples in zip(ties, value):
        if not is_tuple_of(triples, len(tie.rows)):
            return ("form",)
        if not all(_is_triple(plant, sight, room, one) for one in triples):
            return ("form",)
    judge = TallyJudge(plant, sight, room)
    for k, (tie, triples) in enumerate(zip(ties, value)):
        if not judge.is_right(tie, triples):
            return ("sum", k)
    return None


def is_seen_kept(plant, sight, room):
    """Whether each look of a room has a wish that serves it from the room into itself."""
    return look_block(plant, sight, room, room) is None


def funnel_fault(plant, sight, rooms, walls, goal):
    """None if rooms, at least one, are a funnel for walls and a goal; otherwise the first fault."""
    refuse_many_rows(plant, rooms[1:])
    refuse_unsound(rooms)
    for j, room in enumerate(rooms):
        for corner in room_corners(room):
            if not is_in(walls, corner):
                return ("walls", j, corner)
    for corner in room_corners(rooms[-1]):
        if not is_in(goal, corner):
            return ("goal", corner)
    for j, (room, target) in enumerate(zip(rooms, rooms[1:])):
        if _unserved(plant, sight, room, target) is not None:
            return ("look", j)
    return None
