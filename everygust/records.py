"""Records of looks and wishes: the rows that a standing, and the gusts behind it, must keep for a record to come."""

from everygust.errors import BadWish
from everygust.gathered import Gathered
from everygust.limits import few_lean
from everygust.refusals import refuse_unsound
from everygust.rows import is_in
from everygust.sights import giving_rows, slip_told
from everygust.steps import come_by
from everygust.unknowns import next_told, numbers_told, unknowns_told
from everygust.weights import is_bare


def rooms_behind(plant, sight, room, record):
    """The list of the rooms of the standings that are possible behind each beginning of a record, () first.

    A member that should be a wish and is none is refused ahead of all else.
    """
    for number in range(1, len(record), 2):
        if not is_in(plant[4], record[number]):
            raise BadWish(number)
    refuse_unsound((room,))
    found = [few_lean(room)]
    for number, member in enumerate(record):
        if number & 1:
            found.append(come_by(plant, found[-1], member))
        else:
            found.append(few_lean(giving_rows(sight, found[-1], member)))
    return found


def first_without(rooms):
    """The number of the record's member behind which no standing is possible first, None if some are behind all."""
    for number, room in enumerate(rooms):
        if is_bare(room):
            return number - 1
    return None


class Thread:
    """What a record asks of a standing and of as many gusts as it has wishes, which are unknowns.

    asked has the pairs of a room and the told point that must be in it: the room first, and then for each member of
    the record the gusts' room or the slips; last is the told standing at which the record ends.
    """

    def __init__(self, plant, sight, room, record):
        n, k = room[0], plant[5][0]
        self.size = n + k * (len(record) // 2)
        self.last = unknowns_told(self.size, 0, n)
        self.asked = [(room, self.last)]
        begin = n
        for number, member in enumerate(record):
            told = numbers_told(self.size, member)
            if number & 1:
                gust = unknowns_told(self.size, begin, k)
                begin += k
                self.asked.append((plant[5], gust))
                self.last = next_told(plant, self.last, told, gust)
            else:
                self.asked.append((sight[1], slip_told(sight, self.last, told, self.size)))

    def gathered(self):
        """The rows of the record."""
        found = Gathered(self.size)
        for room, point in self.asked:
            found.ask(room, point)
        return found

    def in_order(self, tally):
        """The list of a tally's tuples of weights as the rows of the record stand."""
        first, winds, slipped = tally
        found = [first]
        for number in range(len(self.asked) - 1):
            found.append(winds[number // 2] if number & 1 else slipped[number // 2])
        return found

    def tally_of(self, shared):
        """The tally that such a list of tuples tells."""
        return (shared[0], tuple(shared[2::2]), tuple(shared[1::2]))
