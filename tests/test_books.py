import unittest
from fractions import Fraction

from everygust.books import judge_book, level_book, row_fault, row_paper
from everygust.corners import corners
from everygust.errors import TooGreat
from everygust.lean import is_lean, lean
from everygust.levels import levels
from everygust.rows import joined
from everygust.steps import back
from everygust.weights import follows, is_bare, is_bounded
from tests import referees
from tests.helpers import ODD, cube, fr, is_within, number, numbers, polygon, product_of, pt, seeded, unchanged
from tests.plants import (
    DRIFT, FAR_WALLS, NEAR_GOAL, SLIDE, STILL, WEAK, from_numbers, moved, outs, some_bounded, some_plant)
from tests.test_steps import never, plants
from tests.test_weights import BARE, WEDGE


def is_row(n, value):
    if type(value) is not tuple or len(value) != 2 or type(value[0]) is not tuple or len(value[0]) != n:
        return False
    return all(type(k) is int for k in value[0] + (value[1],))


def is_room(n, value):
    if type(value) is not tuple or len(value) != 2 or type(value[0]) is not int or value[0] != n:
        return False
    return type(value[1]) is tuple and all(is_row(n, row) for row in value[1])


def is_parts(plant, many, value):
    if type(value) is not tuple:
        return False
    for part in value:
        if type(part) is not tuple or len(part) != 3 or type(part[0]) is not int or not 0 <= part[0] < many:
            return False
        if not referees.is_fraction(part[1]) or part[1][0] <= 0 or not referees.is_list_of(part[2], plant[5][0]):
            return False
    return True


def paper_sums(plant, walls, rows, paper):
    """What a paper adds up to: before the wish, before the standing, and behind."""
    parts, nu, lam = paper
    n, m = len(plant[0]), plant[4][0]
    turn, form, bound = [Fraction(0)] * m, [Fraction(0)] * n, Fraction(0)
    for i, t, w in parts:
        r, s = rows[i]
        t = number(t)
        for j in range(m):
            turn[j] += t * product_of(r, [number(line[j]) for line in plant[1]])
        for j in range(n):
            form[j] += t * product_of(r, [number(line[j]) for line in plant[0]])
        bound += t * (s - product_of(r, moved(plant, [0] * n, [0] * m, numbers(w))))
    more, behind = referees.sums(plant[4], nu)
    turn = [x + y for x, y in zip(turn, more)]
    bound += behind
    if lam is not None:
        more, behind = referees.sums(walls, lam)
        form = [x + y for x, y in zip(form, more)]
        bound += behind
    return turn, form, bound


def paper_faults(plant, walls, rows, row, paper):
    """All faults of a paper in form."""
    found = [("gust", q) for q, part in enumerate(paper[0]) if not is_within(plant[5], numbers(part[2]))]
    turn, form, bound = paper_sums(plant, walls, rows, paper)
    return found + [("turn",)] * any(turn) + [("row",)] * (form != list(row[0])) + [("sum",)] * (bound > row[1])


def row_referee(plant, walls, below, row, value):
    good = type(value) is tuple and len(value) == 3 and is_parts(plant, len(below[1]), value[0])
    good = good and referees.is_weights(value[1], len(plant[4][1])) and referees.is_weights(value[2], len(walls[1]))
    return referees.first(paper_faults(plant, walls, below[1], row, value)) if good else ("form",)


def book_referee(plant, walls, goal, many, value):
    n, m = walls[0], plant[4][0]

    def is_entry(entry):
        if type(entry) is not tuple or len(entry) != 3 or not is_room(n, entry[0]) or len(entry[0][1]) > 80:
            return False
        if type(entry[1]) is not tuple or len(entry[1]) != len(entry[0][1]) or type(entry[2]) is not tuple:
            return False
        if any(type(paper) is not tuple or len(paper) != 3 for paper in entry[1]):
            return False
        return all(type(pair) is tuple and len(pair) == 2 and referees.is_list_of(pair[0], n)
                   and referees.is_list_of(pair[1], m) for pair in entry[2])
    if type(value) is not tuple or len(value) != many + 1 or type(value[0]) is not tuple or len(value[0]) != 1:
        return ("form",)
    if not is_room(n, value[0][0]) or not all(is_entry(entry) for entry in value[1:]):
        return ("form",)
    found = [("zero",)] * (value[0][0] != lean(joined(walls, goal)))
    for j in range(1, many + 1):
        found += entry_faults(plant, walls, value[j - 1][0], j, value[j])
        if found:
            return found[0]
    return referees.first(found)


def entry_faults(plant, walls, below, j, entry):
    room, papers, pairs = entry
    if not is_lean(room) or not is_bounded(room):
        return [("lean", j)]
    found = [("row", j, i) for i, (row, paper) in enumerate(zip(room[1], papers))
             if row_referee(plant, walls, below, row, paper) is not None]
    due = [] if is_bare(room) else corners(room)
    found += [("lacks", j, p) for p in due if p not in [corner for corner, _ in pairs]]
    for i, (corner, _) in enumerate(pairs):
        is_after = i == 0 or numbers(corner) > numbers(pairs[i - 1][0])
        found += [("spare", j, i)] * (corner not in due or not is_after)
    for i, (corner, wish) in enumerate(pairs):
        found += [("wall", j, i)] * (not is_within(walls, numbers(corner)))
        found += [("wish", j, i)] * (not is_within(plant[4], numbers(wish)))
        out = outs(plant, numbers(corner), numbers(wish), below)
        found += [("gust", j, i, from_numbers(out[0]))] if out else []
    return found


PAPER = (((1, (1, 1), pt(1)),), pt(1, 0), pt(0, 0))


class TestRowPaper(unittest.TestCase):
    def test_by_hand(self):
        below = (1, (((-1,), 1), ((1,), 1)))
        turned = DRIFT[:4] + ((1, (((-1,), 2), ((1,), 2))), DRIFT[5])
        self.assertEqual(unchanged(self, row_paper, turned, FAR_WALLS, below, ((1,), 2)), PAPER)
        self.assertIsNone(row_fault(turned, FAR_WALLS, below, ((1,), 2), PAPER))
        self.assertIsNone(row_paper(turned, FAR_WALLS, below, ((1,), 1)))
        self.assertIsNone(row_paper(turned, FAR_WALLS, below, ((2,), 3)))
        self.assertEqual(row_paper(turned, FAR_WALLS, below, ((0,), 0)), ((), pt(0, 0), pt(0, 0)))
        self.assertIsNone(row_paper(turned, FAR_WALLS, below, ((0,), -1)))
        self.assertIsNone(row_fault(STILL, cube(2), cube(2), ((2, 0), 2), (((0, (2, 1), ()),), (), pt(0, 0, 0, 0))))

    def test_where_no_pair_is(self):
        paper = row_paper(WEAK, FAR_WALLS, NEAR_GOAL, ((7,), -1000))
        self.assertIsNone(row_fault(WEAK, FAR_WALLS, NEAR_GOAL, ((7,), -1000), paper))
        self.assertIsNone(row_referee(WEAK, FAR_WALLS, NEAR_GOAL, ((7,), -1000), paper))
        # Rows of a bare room below that tell of one place alone make no numbers at the other place.
        below = (2, (((1, 0), -1), ((-1, 0), 0)))
        self.assertIsNone(row_paper(STILL, (2, ()), below, ((0, 1), 5)))
        self.assertIsNotNone(row_paper(STILL, (2, (((0, 1), 9),)), below, ((0, 1), 5)))
        self.assertIsNotNone(row_paper(STILL, (2, ()), below, ((-3, 0), -80)))
        self.assertIsNotNone(row_paper(STILL, never(2), below, ((0, 0), -80)))

    def test_all_sorts(self):
        told = seeded(241)
        words, faults = {}, {}
        for plant, below in plants(told, 60):
            n = len(plant[0])
            walls = cube(n, -told.randint(1, 3), told.randint(0, 3)) if told.random() < 0.9 else never(n)
            level = lean(joined(walls, back(plant, below)))
            for row in list(level[1])[:4] + [(tuple(told.randint(-2, 2) for _ in range(n)), told.randint(-3, 6))]:
                paper = unchanged(self, row_paper, plant, walls, below, row)
                if not is_bare(level):
                    self.assertIs(paper is not None, follows(level, row))
                elif not is_bare(walls):
                    self.assertIsNotNone(paper)
                words[paper is None] = True
                if paper is None:
                    continue
                self.assertIsNone(row_fault(plant, walls, below, row, paper))
                self.assertIsNone(row_referee(plant, walls, below, row, paper))
                for _ in range(4):
                    value = referees.changed(told, paper, ODD)
                    fault = row_fault(plant, walls, below, row, value)
                    self.assertEqual(fault, row_referee(plant, walls, below, row, value), (plant, walls, below, value))
                    faults[fault and fault[0]] = True
        self.assertEqual(len(words), 2)
        self.assertTrue({"form", "gust", "turn", "row", "sum"} <= set(faults), faults)

    def test_each_fault(self):
        row = ((1,), 2)
        below = (1, (((-1,), 1), ((1,), 1)))
        plant = DRIFT[:4] + ((1, (((-1,), 2), ((1,), 2))), DRIFT[5])
        for paper, fault in [
                (PAPER, None), ((((1, (1, 1), pt(0)),), pt(1, 0), pt(0, 0)), ("sum",)),
                ((((1, (1, 1), pt(2)),), pt(1, 0), pt(0, 0)), ("gust", 0)),
                ((((1, (1, 2), pt(1)), (1, (1, 2), pt(-2))), pt(0, 1), pt(0, 0)), ("gust", 1)),
                ((((1, (1, 2), pt(1)), (1, (1, 2), pt(1))), pt(1, 0), pt(0, 0)), None),
                ((PAPER[0], pt(0, 0), pt(0, 0)), ("turn",)), ((PAPER[0], pt(0, 1), pt(0, 9)), ("turn",)),
                ((PAPER[0], pt(1, 0), pt(1, 0)), ("row",)), ((PAPER[0], pt(1, 0), pt(1, 1)), ("sum",)),
                ((((1, (0, 1), pt(1)),), pt(1, 0), pt(0, 0)), ("form",)),
                ((((2, (1, 1), pt(1)),), pt(1, 0), pt(0, 0)), ("form",)),
                ((((True, (1, 1), pt(1)),), pt(1, 0), pt(0, 0)), ("form",)),
                ((PAPER[0], pt(1, -1), pt(0, 0)), ("form",)), ((PAPER[0], pt(1, 0), pt(0)), ("form",)),
                ((PAPER[0], pt(1, 0)), ("form",)), (list(PAPER), ("form",)),
                (((), pt(0, 0), pt(1, 0)), ("sum",)), (((), pt(0, 0), pt(Fraction(1, 2), 0)), ("row",))]:
            self.assertEqual(row_fault(plant, FAR_WALLS, below, row, paper), fault, paper)
            self.assertEqual(row_referee(plant, FAR_WALLS, below, row, paper), fault, paper)
        for odd in ODD:
            for value in (odd, (odd,) + PAPER[1:], PAPER[:1] + (odd,) + PAPER[2:], PAPER[:2] + (odd,),
                          ((odd,),) + PAPER[1:], (((odd, (1, 1), pt(1)),),) + PAPER[1:]):
                due = row_referee(plant, FAR_WALLS, below, row, value)
                self.assertEqual(row_fault(plant, FAR_WALLS, below, row, value), due, value)

    def test_nothing_is_raised(self):
        # Rooms that are far away, or too great, are no reason to refuse.
        self.assertIsNotNone(row_paper(SLIDE, cube(2), WEDGE, ((-1, -1), 0)))
        self.assertIsNotNone(row_paper(STILL, (2, ()), polygon(90), polygon(90)[1][4]))


def trips(told, many):
    found = [(DRIFT, FAR_WALLS, NEAR_GOAL, 3), (WEAK, FAR_WALLS, NEAR_GOAL, 2), (SLIDE, cube(2, -3, 3), cube(2), 2),
             (STILL, cube(2), cube(2, 0, 4), 2), (SLIDE, BARE, cube(2), 1), (SLIDE, cube(2), never(2), 2)]
    for _ in range(many):
        plant = some_plant(told)
        n = len(plant[0])
        goal = some_bounded(told, n, False)
        found.append((plant, cube(n, -3, told.randint(1, 4)), goal, told.randint(0, 3 if n < 3 else 1)))
    return found


class TestBooks(unittest.TestCase):
    def test_all_sorts(self):
        told = seeded(242)
        faults = {}
        for plant, walls, goal, many in trips(told, 40):
            book = unchanged(self, level_book, plant, walls, goal, many)
            self.assertEqual(tuple(entry[0] for entry in book), levels(plant, walls, goal, many))
            self.assertIsNone(judge_book(plant, walls, goal, many, book))
            self.assertIsNone(book_referee(plant, walls, goal, many, book))
            for _ in range(8):
                value = referees.changed(told, book, ODD)
                fault = judge_book(plant, walls, goal, many, value)
                self.assertEqual(fault, book_referee(plant, walls, goal, many, value), (plant, walls, goal, value))
                faults[fault and fault[0]] = True
        self.assertTrue({"form", "zero", "lean", "row", "lacks", "wish", "gust"} <= set(faults), faults)

    def test_example(self):
        book = level_book(DRIFT, FAR_WALLS, NEAR_GOAL, 1)
        self.assertEqual(book[1][2], ((pt(-2), pt(2)), (pt(2), pt(-2))))
        self.assertEqual(book[0], (lean(NEAR_GOAL),))

    def changed_entry(self, book, j, at, part):
        entry = book[j][:at] + (part,) + book[j][at + 1:]
        return book[:j] + (entry,) + book[j + 1:]

    def judged(self, value, fault, many=2):
        self.assertEqual(judge_book(DRIFT, FAR_WALLS, NEAR_GOAL, many, value), fault, value)
        self.assertEqual(book_referee(DRIFT, FAR_WALLS, NEAR_GOAL, many, value), fault, value)

    def test_each_fault(self):
        book = level_book(DRIFT, FAR_WALLS, NEAR_GOAL, 2)
        self.judged(book, None)
        for value in (book[:2], book + book[2:], list(book), (book[1],) + book[1:], ((),) + book[1:],
                      ((NEAR_GOAL, NEAR_GOAL),) + book[1:], book[:1] + (book[1][:2],) + book[2:]):
            self.judged(value, ("form",))
        self.judged(((NEAR_GOAL,),) + book[1:], ("zero",))
        self.judged(((cube(2),),) + book[1:], ("form",))
        room, papers, pairs = book[1]
        backwards = (1, room[1][::-1])
        self.judged(self.changed_entry(self.changed_entry(book, 1, 0, backwards), 1, 1, papers[::-1]), ("lean", 1))
        half = self.changed_entry(self.changed_entry(book, 2, 0, (1, (((1,), 3),))), 2, 1, book[2][1][:1])
        self.judged(half, ("lean", 2))
        self.judged(self.changed_entry(book, 1, 0, (1, (((-1,), 2), ((1,), 1)))), ("row", 1, 1))
        self.judged(self.changed_entry(book, 1, 1, papers[::-1]), ("row", 1, 0))
        self.judged(self.changed_entry(book, 2, 1, (book[2][1][0], ((), (), ()))), ("row", 2, 1))
        self.judged(self.changed_entry(book, 1, 1, papers[:1]), ("form",))
        self.judged(self.changed_entry(book, 1, 2, pairs[:1]), ("lacks", 1, pt(2)))
        self.judged(self.changed_entry(book, 1, 2, ()), ("lacks", 1, pt(-2)))
        self.judged(self.changed_entry(book, 1, 2, pairs[::-1]), ("spare", 1, 1))
        self.judged(self.changed_entry(book, 1, 2, pairs + pairs[1:]), ("spare", 1, 2))
        self.judged(self.changed_entry(book, 1, 2, pairs[:1] + ((pt(0), pt(0)),) + pairs[1:]), ("spare", 1, 1))
        self.judged(self.changed_entry(book, 1, 2, ((pt(-2), pt(3)), pairs[1])), ("wish", 1, 0))
        self.judged(self.changed_entry(book, 1, 2, (pairs[0], (pt(2), pt(-1)))), ("gust", 1, 1, pt(1)))
        self.judged(self.changed_entry(book, 1, 2, ((pt(-2), pt(0)), (pt(2), pt(-9)))), ("gust", 1, 0, pt(-1)))
        self.judged(self.changed_entry(book, 1, 2, (pairs[0], (pt(2),))), ("form",))
        self.judged(self.changed_entry(book, 1, 2, list(pairs)), ("form",))
        # A room that is greater is shown by no papers; one that is less has corners that lead where they must.
        less = (1, (((-1,), 1), ((1,), 1)))
        self.judged(self.changed_entry(self.changed_entry(book, 1, 0, less), 1, 2, ((pt(-1), pt(1)), (pt(1), pt(-1)))),
                    ("row", 1, 0))
        for odd in ODD:
            self.judged(odd, ("form",))
            for j in range(3):
                value = book[:j] + (odd,) + book[j + 1:]
                self.judged(value, ("form",))
            for at in range(3):
                value = self.changed_entry(book, 1, at, odd)
                self.judged(value, book_referee(DRIFT, FAR_WALLS, NEAR_GOAL, 2, value))

    def test_walls(self):
        walls = (1, (((1,), 1), ((-1,), 5)))
        book = level_book(DRIFT, walls, FAR_WALLS, 1)
        room = (1, (((-1,), 5), ((1,), 2)))
        papers = (book[1][1][0], (((1, (1, 1), pt(1)),), pt(0, 1), pt(0, 0)))
        value = (book[0], (room, papers, ((pt(-5), pt(1)), (pt(2), pt(-2)))))
        for judge in (judge_book, book_referee):
            self.assertEqual(judge(DRIFT, walls, FAR_WALLS, 1, value), ("wall", 1, 1))
        bare = level_book(DRIFT, walls, never(1), 1)
        self.assertEqual(bare[1][2], ())
        wrong = (bare[0], bare[1][:2] + (((pt(0), pt(0)),),))
        self.assertEqual(judge_book(DRIFT, walls, never(1), 1, wrong), ("spare", 1, 0))

    def test_beyond_the_walls(self):
        # Below without points lets papers show any row; the corners tell what is wrong then.
        book = level_book(DRIFT, FAR_WALLS, never(1), 1)
        room = (1, (((-1,), -7), ((1,), 8)))
        papers = tuple(row_paper(DRIFT, FAR_WALLS, never(1), row) for row in room[1])
        value = (book[0], (room, papers, ((pt(7), pt(0)), (pt(8), pt(0)))))
        for judge in (judge_book, book_referee):
            self.assertEqual(judge(DRIFT, FAR_WALLS, never(1), 1, value), ("wall", 1, 0))

    def test_too_great(self):
        self.assertRaises(TooGreat, level_book, STILL, cube(2, -9999, 9999), polygon(81), 1)
        walls, goal = cube(2, -9999, 9999), polygon(81)
        zero = lean(goal)
        self.assertIsNone(judge_book(STILL, walls, goal, 0, ((zero,),)))
        entry = (zero, ((((), (), ()),) * 81), ())
        self.assertEqual(judge_book(STILL, walls, goal, 1, ((zero,), entry)), ("form",))
        small = level_book(STILL, walls, polygon(80), 1)
        self.assertIsNone(judge_book(STILL, walls, polygon(80), 1, small))

    def test_just_within_in_time(self):
        told = seeded(243)
        plant = (tuple(pt(*[Fraction(told.randint(-99, 99), told.randint(100, 200)) for _ in range(3)])
                       for _ in range(3)), tuple(pt(told.randint(-2, 2), 1) for _ in range(3)),
                 tuple(pt(Fraction(1, 9), Fraction(told.randint(-1, 1), 7)) for _ in range(3)), pt(0, 0, 0),
                 cube(2, -3, 3), cube(2))
        walls, goal = cube(3, -20, 20), cube(3, -6, 9)
        book = level_book(plant, walls, goal, 6)
        self.assertIsNone(judge_book(plant, walls, goal, 6, book))
        self.assertEqual(fr(Fraction(1, 2)), (1, 2))
