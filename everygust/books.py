"""Row papers and books: what shows that a level has no more, and no less, than it is told to have."""

from everygust.backing import Backing, Pairs
from everygust.ends import is_pairs, leading_fault, telling_fault
from everygust.forms import is_room, is_tuple_of
from everygust.fractions import ceiling_of, minus, plus, times
from everygust.lean import is_lean, lean
from everygust.limits import MOST_ROWS, few_lean
from everygust.papers import added_pair
from everygust.rowpapers import is_row_paper, shown_fault
from everygust.rows import joined
from everygust.solids import corners_if_any
from everygust.solving import mixed
from everygust.vectors import divided
from everygust.weights import bare_paper, following_paper, is_bounded


def _weights_if_bare(room, row):
    # Weights of a bare room that make a row's numbers, with so much of a bare paper that its bound holds, or None.
    answer = mixed([divided(a, 1) for a, _ in room[1]], divided(row[0], 1))
    if answer[0] == "parted":
        return None
    over = ceiling_of(minus(added_pair(room, answer[1])[1], (row[1], 1)))
    often = (max(0, over), 1)
    return tuple([plus(weight, times(often, more)) for weight, more in zip(answer[1], bare_paper(room))])


def paper_over(pairs, row):
    """What weights of a room of pairs tell as a paper, if they show a row of the standings there; None if none do."""
    told = (row[0] + (0,) * (pairs.pair_room[0] - len(row[0])), row[1])
    answer = following_paper(pairs.pair_room, told)
    if answer[0] == "point":
        return None
    weights = answer[1] if answer[0] == "weights" else _weights_if_bare(pairs.pair_room, told)
    return None if weights is None else pairs.row_paper_of(weights)


def row_paper(plant, walls, below, row):
    """A paper that shows a row over a room below, None if there is none."""
    return paper_over(Pairs(plant, walls, below), row)


def row_fault(plant, walls, below, row, value):
    """None if a value, which may be anything, is a paper that shows a row; otherwise its first fault."""
    if not is_row_paper(plant, walls, len(below[1]), value):
        return ("form",)
    return shown_fault(plant, walls, below[1], row, value)


def level_book(plant, walls, goal, many):
    """A book of the levels 0 to many."""
    found = [(few_lean(joined(walls, goal)),)]
    for _ in range(many):
        backing = Backing(Pairs(plant, walls, found[-1][0]))
        found.append((backing.room(), backing.papers(), backing.corners()))
    return tuple(found)


def _is_entry(n, m, value):
    if not is_tuple_of(value, 3) or not is_room(n, value[0]) or len(value[0][1]) > MOST_ROWS:
        return False
    _, papers, pairs = value
    if not is_tuple_of(papers, len(value[0][1])) or not all(is_tuple_of(paper, 3) for paper in papers):
        return False
    return is_pairs(n, m, pairs)


def _is_book(n, m, many, value):
    if not is_tuple_of(value, many + 1) or not is_tuple_of(value[0], 1) or not is_room(n, value[0][0]):
        return False
    return all(_is_entry(n, m, entry) for entry in value[1:])


def _entry_fault(plant, walls, below, entry):
    room, papers, pairs = entry
    if not is_lean(room) or not is_bounded(room):
        return ("lean",)
    for i, (row, paper) in enumerate(zip(room[1], papers)):
        if row_fault(plant, walls, below, row, paper) is not None:
            return ("row", i)
    fault = telling_fault(corners_if_any(room), pairs)
    return fault if fault is not None else leading_fault(plant, walls, below, pairs, "gust")


def judge_book(plant, walls, goal, many, value):
    """None if a value, which may be anything, is a book; otherwise its first fault."""
    if not _is_book(walls[0], plant[4][0], many, value):
        return ("form",)
    if value[0][0] != lean(joined(walls, goal)):
        return ("zero",)
    for j in range(many):
        fault = _entry_fault(plant, walls, value[j][0], value[j + 1])
        if fault is not None:
            return (fault[0], j + 1) + fault[1:]
    return None
