"""Test trees: which piece of a table has a standing, told by asking row after row."""

from everygust.errors import BadShape, TooGreat
from everygust.forms import is_number_of, is_tuple_of
from everygust.regions import region_point
from everygust.rows import plain_row, slack
from everygust.shapes import row_at
from everygust.zones import zone_of

MOST_PARTING = 8


def _tree_at(n, many, value, path):
    if value is None or is_number_of(value, many):
        return
    if not is_tuple_of(value, 3):
        raise BadShape(path)
    row_at(n, value[0], path + (0,))
    _tree_at(n, many, value[1], path + (1,))
    _tree_at(n, many, value[2], path + (2,))


def check_tree(n, many, value):
    """Refuses what is no test tree for n and so many pieces."""
    _tree_at(n, many, value, ())


def answer_of(tree, x):
    """The answer of a tree at a standing: the number of a piece, or None."""
    found = tree
    while type(found) is tuple:
        row, yes, no = found
        found = yes if slack(row, x)[0] >= 0 else no
    return found


def depth(tree):
    """How many rows are asked at most."""
    if type(tree) is not tuple:
        return 0
    return 1 + max(depth(tree[1]), depth(tree[2]))


def _whole(room):
    return zone_of((room[0], room[1], ()))


def _cutting(zone, rows):
    # Those of some rows that some points of a zone break, as long as some keep each of them; None if not.
    found = []
    for row in rows:
        kept, out = zone.parted(row)
        if kept is None:
            return None
        if out is not None:
            found.append(row)
    return found


def _grown(zone, left):
    # left has the pieces that may have points of the zone, each with those of its rows that may be broken.
    cutting = []
    for i, rows in left:
        some = _cutting(zone, rows)
        if some == []:
            return i
        if some is not None:
            cutting.append((i, some))
    if not cutting:
        return None
    i, some = min(cutting, key=lambda pair: len(pair[1]))
    others = [pair for pair in cutting if pair[0] != i]
    kept, out = zone.parted(some[0])
    return (some[0], _grown(kept, [(i, some[1:])] + others), _grown(out, others))


def grown_tree(table, room):
    """A test tree for a table that is right in a bounded room."""
    zone = _whole(room)
    return None if zone is None else _grown(zone, [(i, list(piece[0][1])) for i, piece in enumerate(table)])


def _wrong_zone(table, zone, answer):
    # A part of a zone in which an answer is wrong, None if there is none.
    if answer is None:
        for piece in table:
            found = zone.common(piece[0])
            if found is not None:
                return found
        return None
    found = zone.less(table[answer][0])
    return found[0] if found else None


def _first_wrong(table, zone, tree):
    # Where a tree is wrong in a zone, which may be None.
    if zone is None:
        return None
    if type(tree) is not tuple:
        return _wrong_zone(table, zone, tree)
    row, yes, no = tree
    kept, out = zone.parted(row)
    found = _first_wrong(table, kept, yes)
    return _first_wrong(table, out, no) if found is None else found


def judge_tree(table, room, tree):
    """None if a tree is right in a bounded room, otherwise a point at which its answer is not."""
    found = _first_wrong(table, _whole(room), tree)
    return None if found is None else region_point(found.region)


def _plain_rows(table):
    # The plain rows of a table's rooms, each once.
    found = {}
    for piece in table:
        for row in piece[0][1]:
            found[plain_row(row)] = True
    return list(found)


def parting_rows(table, room):
    """The ascending list of a table's plain rows that some point of a bounded room keeps and some other one breaks."""
    zone, found = _whole(room), []
    for row in _plain_rows(table) if zone is not None else []:
        kept, out = zone.parted(row)
        if kept is not None and out is not None:
            found.append(row)
    return sorted(found)


class Cells:
    """The cells into which the parting rows of a table part a room; groups of them are binary figures of integers.

    keeping has for each parting row, in order, the group of the cells that keep it; having has for each piece the
    group of those that it has.
    """

    def __init__(self, table, room):
        self.parting = parting_rows(table, room)
        if len(self.parting) > MOST_PARTING:
            raise TooGreat()
        zone = _whole(room)
        cells = [] if zone is None else self._cells(zone)
        self.every = (1 << len(cells)) - 1
        self.keeping = [sum([1 << j for j, kept in enumerate(cells) if kept[k]]) for k in range(len(self.parting))]
        self.having = [self._group_of(zone, piece[0]) for piece in table]
        self.known = {}

    def _cells(self, zone):
        # For each cell the list of whether it keeps the rows.
        zones = [(zone, [])]
        for row in self.parting:
            behind = []
            for one, kept in zones:
                for part, is_kept in zip(one.parted(row), (True, False)):
                    if part is not None:
                        behind.append((part, kept + [is_kept]))
            zones = behind
        return [kept for _, kept in zones]

    def _group_of(self, zone, room):
        # The cells that a room has; rows that do not part are kept by all points, or broken by all.
        found = self.every
        for told in room[1]:
            row = plain_row(told)
            if row in self.parting:
                found &= self.keeping[self.parting.index(row)]
            elif zone is not None and zone.parted(row)[0] is None:
                return 0
        return found

    def answer(self, group):
        """The triple (whether a group needs no test, 0, its answer)."""
        for i, had in enumerate(self.having):
            if group & had == group:
                return (True, 0, i)
        return (not any(group & had for had in self.having), 0, None)

    def look(self, group):
        """The triple (whether a group needs no test, how many it needs, its answer or the number of its first row)."""
        if group not in self.known:
            found = self.answer(group)
            self.known[group] = found if found[0] else self._parted(group)
        return self.known[group]

    def _parted(self, group):
        best = None
        for k, kept in enumerate(self.keeping):
            yes = group & kept
            if yes and yes != group:
                tests = 1 + max(self.look(yes)[1], self.look(group ^ yes)[1])
                if best is None or tests < best[1]:
                    best = (False, tests, k)
        return best

    def tree(self, group):
        """A tree of the fewest tests for a group."""
        is_told, _, number = self.look(group)
        if is_told:
            return number
        yes = group & self.keeping[number]
        return (self.parting[number], self.tree(yes), self.tree(group ^ yes))


def fewest_tests(table, room):
    """The least depth of a tree of its own rows that is right in a bounded room."""
    cells = Cells(table, room)
    return cells.look(cells.every)[1]


def fewest_tree(table, room):
    """A tree of its own rows and of the least depth that is right in a bounded room."""
    cells = Cells(table, room)
    return cells.tree(cells.every)
