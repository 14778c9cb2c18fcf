"""Tasks, each a plant with walls and a goal, and the levels of them that have been worked out."""

from everygust.backing import Backing, Pairs
from everygust.limits import few_lean
from everygust.rows import joined


class Tasks:
    """The levels that are known of each task, and the greatest number of one for which an answer was given."""

    def __init__(self):
        self.known = {}
        self.needed = {}

    def level(self, task, number):
        """The level of a number of a task; each level is worked out once."""
        plant, walls, goal = task
        if task not in self.known:
            self.known[task] = [few_lean(joined(walls, goal))]
        found = self.known[task]
        while len(found) <= number:
            found.append(Backing(Pairs(plant, walls, found[-1])).room())
        return found[number]

    def answered(self, task, number):
        """Takes note that an answer needed the level of a number of a task."""
        self.needed[task] = max(number, self.needed.get(task, 0))

    def work(self):
        """How many levels above level 0 were needed, for all tasks together."""
        return sum(self.needed.values())

    def twin(self):
        """Tasks of which as much is known."""
        found = Tasks()
        found.known = {task: list(self.known[task]) for task in self.known}
        found.needed = {task: self.needed[task] for task in self.needed}
        return found
