"""A desk: a sheet and a trip that acts change, and questions about both."""

from everygust.acts import done_by, word_against
from everygust.asking import (
    answer_asked, corners_asked, inside_asked, kept_asked, led_asked, price_asked, task_asked, trip_asked,
    wishes_asked)
from everygust.checks import is_name
from everygust.errors import BadAct, NothingDone, UnknownName
from everygust.tasks import Tasks


class Desk:
    """A desk, at first with an empty sheet and no trip.

    states has the pairs (sheet, trip) behind each number of the acts that are done.
    """

    def __init__(self):
        self.past = []
        self.taken_back = []
        self.states = [((), None)]
        self.marked = {}
        self.tasks = Tasks()

    def sheet(self):
        """The sheet."""
        return self.states[-1][0]

    def trip(self):
        """The trip, None if there is none."""
        return self.states[-1][1]

    def acts(self):
        """The list of the acts that are done."""
        return list(self.past)

    def act_word(self, act):
        """The word with which an act, which may be anything, cannot be done now, None if it can."""
        return word_against(self.sheet(), self.trip(), act)

    def do(self, act):
        """Does an act, which may be anything; how many acts are done then."""
        word = self.act_word(act)
        if word is not None:
            raise BadAct(word)
        self.taken_back = []
        return self._done(act)

    def _done(self, act):
        self.states.append(done_by(self.sheet(), self.trip(), act))
        self.past.append(act)
        return len(self.past)

    def undo(self):
        """Takes the last act back; how many acts are done then."""
        if not self.past:
            raise NothingDone()
        self.states.pop()
        self.taken_back.append(self.past.pop())
        return len(self.past)

    def redo(self):
        """Does the act again that was taken back last; how many acts are done then."""
        if not self.taken_back:
            raise NothingDone()
        return self._done(self.taken_back.pop())

    def corners(self, name):
        """The list of the corners of a room."""
        return corners_asked(self.sheet(), name)

    def inside(self, name, other):
        """Whether a room lies inside another one."""
        return inside_asked(self.sheet(), name, other)

    def level(self, plant, walls, goal, many):
        """The level of a number of steps."""
        task = task_asked(self.sheet(), (plant, walls, goal), many)
        found = self.tasks.level(task, many)
        self.tasks.answered(task, many)
        return found

    def kept(self, plant, walls, most):
        """The pair of the word of a peeling and the number of the last layer that is told."""
        return kept_asked(self.sheet(), plant, walls, most)

    def is_led(self):
        """Whether the trip's standing is led."""
        return led_asked(self.tasks, trip_asked(self.trip()))

    def wishes(self):
        """The lean room of the wishes by which the trip's standing is led on."""
        return wishes_asked(self.tasks, trip_asked(self.trip()))

    def answer(self, wish):
        """The gust that answers a wish, None if none does."""
        return answer_asked(self.tasks, trip_asked(self.trip()), wish)

    def price(self, cost):
        """The least price that is sure from the trip's standing, None if it is not led."""
        return price_asked(self.sheet(), self.trip(), cost)

    def work(self):
        """How many levels above level 0 were worked out for answers."""
        return self.tasks.work()

    def mark(self, name):
        """Sets a mark for the number of acts that are done."""
        self.marked[name] = len(self.past)

    def since(self, name):
        """How many acts more are done than at a mark, perhaps below 0."""
        if not is_name(name) or name not in self.marked:
            raise UnknownName(name)
        return len(self.past) - self.marked[name]

    def marks(self):
        """The ascending list of the marks' names."""
        return sorted(self.marked)

    def twin(self):
        """A desk that is as this one is now, and goes its own way from then on."""
        found = Desk()
        found.past = list(self.past)
        found.taken_back = list(self.taken_back)
        found.states = list(self.states)
        found.marked = dict(self.marked)
        found.tasks = self.tasks.twin()
        return found
