import unittest
from fractions import Fraction

from everygust import weights
from everygust.solving import greatest_of
from tests import referees
from tests.helpers import (
    ODD, bare_by_elimination, cross, cube, fr, is_within, number, numbers, product_of, pt, random_room, seeded,
    simplex, unchanged)

TRIANGLE = (2, (((-1, 0), 0), ((0, -1), 0), ((1, 2), 4)))
BARE = (2, TRIANGLE[1] + (((-1, -1), -5),))
WEDGE = (2, (((-1, 0), 0), ((0, -1), 0)))


def rooms_of_all_sorts(told, many, most=4):
    """Rooms with and without points, bounded and not, small and great, near and far away from 0."""
    found = [(0, ()), (0, (((), 0),)), (0, (((), -1),)), (1, ()), (6, ()), cube(6), cross(3), simplex(5), TRIANGLE, BARE,
             WEDGE, (1, (((0,), 0),)), (1, (((0,), -1),)), (3, (((0, 0, 0), 4), ((1, 1, 1), 2)))]
    for _ in range(many):
        n = told.randint(0, most)
        kind = told.choice(["any", "full", "full", "point", "flat"])
        room = random_room(told, n, told.randint(0, 8), told.choice([1, 2, 9, 10 ** 60]), kind)
        if told.random() < 0.5:
            room = (n, room[1] + cube(n, -5, 7)[1])
        found.append(room)
    return found


class TestAdding(unittest.TestCase):
    def test_worth(self):
        self.assertEqual(weights.worth(pt(1, Fraction(1, 2)), pt(3, Fraction(1, 3))), (19, 6))
        self.assertEqual(weights.worth((), ()), (0, 1))

    def test_added_up(self):
        self.assertEqual(weights.added_up(TRIANGLE, pt(0, 1, 1)), (pt(1, 1), (4, 1)))
        self.assertEqual(weights.added_up(BARE, pt(0, 1, 1, 1)), (pt(0, 0), (-1, 1)))
        self.assertEqual(weights.added_up((3, ()), ()), (pt(0, 0, 0), (0, 1)))
        self.assertEqual(weights.added_up((0, (((), 3),)), pt(Fraction(1, 2))), ((), (3, 2)))
        told = seeded(51)
        for room in rooms_of_all_sorts(told, 60):
            chosen = pt(*[Fraction(told.randint(0, 5), told.randint(1, 5)) for _ in room[1]])
            form, bound = referees.sums(room, chosen)
            self.assertEqual(unchanged(self, weights.added_up, room, chosen), (pt(*form), fr(bound)))


class TestBare(unittest.TestCase):
    def test_all_sorts(self):
        told = seeded(52)
        for room in rooms_of_all_sorts(told, 300):
            paper = unchanged(self, weights.bare_paper, room)
            self.assertIs(weights.is_bare(room), paper is not None)
            if len(room[1]) < 16 and room[0] < 4:
                self.assertEqual(paper is not None, bare_by_elimination(room))
            if paper is not None:
                self.assertIsNone(weights.judge_bare(room, paper))
                self.assertIsNone(referees.judge_bare(room, paper))

    def test_judge(self):
        for value, fault in [
                (pt(0, 1, 1, 1), None), (pt(0, 2, 2, 2), None), (pt(0, 1, 1), ("form",)), (list(pt(0, 1, 1, 1)), ("form",)),
                (pt(0, 1, 1, 2), ("sum", 0)), (pt(0, 1, -1, 1), ("weight", 2)), (pt(-1, 1, -1, 1), ("weight", 0)),
                (pt(0, 2, 1, 1), ("sum", 1)), (pt(0, 0, 0, 0), ("bound",)),
                (pt(0, Fraction(1, 2), Fraction(1, 2), Fraction(1, 2)), ("bound",)),
                (((0, 1), (1, 1), (1, 1), (2, 2)), ("form",)), ((0, 1, 1, 1), ("form",))]:
            self.assertEqual(weights.judge_bare(BARE, value), fault)
        for odd in ODD:
            self.assertEqual(weights.judge_bare(BARE, odd), ("form",))
        self.assertEqual(weights.judge_bare((2, ()), ()), ("bound",))
        self.assertIsNone(weights.judge_bare((0, (((), -3),)), pt(Fraction(1, 3))))


class Judged(unittest.TestCase):
    def both(self, judge, referee, value, *args):
        found = judge(*args, value)
        self.assertEqual(found, referee(*args, value), (args, value))
        return found

    def changes(self, told, judge, referee, paper, *args):
        """Changed papers, judged twice; tells the words of the faults."""
        found = {}
        value = paper
        for _ in range(6):
            value = referees.changed(told, value if told.random() < 0.4 else paper, ODD)
            fault = self.both(judge, referee, value, *args)
            if fault is not None:
                found[fault[0]] = True
        return found

    def anything(self, judge, words, *args):
        for odd in ODD:
            self.assertEqual(judge(*args, odd), ("form",))
            for word, many in words:
                for j in range(many):
                    value = (word,) + tuple(odd if k == j else () for k in range(many))
                    self.assertEqual(judge(*args, value)[:1] if judge(*args, value) else None,
                                     ("form",), (word, odd))


class TestGreatest(Judged):
    def test_all_sorts(self):
        told = seeded(53)
        words, faults = {}, {}
        for room in rooms_of_all_sorts(told, 300):
            form = pt(*[Fraction(told.randint(-5, 5), told.randint(1, 4)) for _ in range(room[0])])
            answer = unchanged(self, weights.greatest, room, form)
            self.assertEqual(answer, greatest_of(room[0], room[1], form))
            self.assertIsNone(self.both(weights.judge_greatest, referees.judge_greatest, answer, room, form))
            words[answer[0]] = True
            faults.update(self.changes(told, weights.judge_greatest, referees.judge_greatest, answer, room, form))
        self.assertEqual(sorted(words), ["bare", "far", "most"])
        self.assertEqual(sorted(faults), ["bound", "form", "row", "sum", "way", "weight", "worth"])

    def test_judge(self):
        form = pt(1, 1)
        for room, value, fault in [
                (TRIANGLE, ("most", (4, 1), pt(4, 0), pt(0, 1, 1)), None),
                (TRIANGLE, ("most", (4, 1), pt(5, -1), pt(0, 1, 1)), ("row", 1)),
                (TRIANGLE, ("most", (4, 1), pt(3, 0), pt(0, 1, 1)), ("worth",)),
                (TRIANGLE, ("most", (3, 1), pt(4, 0), pt(-1, 1, 1)), ("worth",)),
                (TRIANGLE, ("most", (4, 1), pt(4, 0), pt(-1, -1, 1)), ("weight", 0)),
                (TRIANGLE, ("most", (4, 1), pt(4, 0), pt(0, 2, 1)), ("sum", 1)),
                (TRIANGLE, ("most", (4, 1), pt(4, 0), pt(1, 2, 1)), ("sum", 0)),
                (TRIANGLE, ("most", (3, 1), pt(3, 0), pt(0, 1, 1)), ("bound",)),
                (TRIANGLE, ("most", 4, pt(4, 0), pt(0, 1, 1)), ("form",)),
                (TRIANGLE, ("most", (4, 1), pt(4, 0, 0), pt(0, 1, 1)), ("form",)),
                (TRIANGLE, ("most", (4, 1), pt(4, 0), pt(0, 1)), ("form",)),
                (TRIANGLE, ("far", pt(0, 0), pt(1, 0)), ("way", 2)),
                (TRIANGLE, ("far", pt(5, 0), pt(1, 0)), ("row", 2)),
                (WEDGE, ("far", pt(0, 0), pt(1, 0)), None), (WEDGE, ("far", pt(0, 0), pt(0, 0)), ("worth",)),
                (WEDGE, ("far", pt(0, -1), pt(0, -1)), ("row", 1)), (WEDGE, ("far", pt(0, 0), pt(0, -1)), ("way", 1)),
                (BARE, ("bare", pt(0, 1, 1, 1)), None), (BARE, ("bare", pt(0, 1, 1)), ("form",)),
                (BARE, ("bare", pt(0, 1, 1, 2)), ("sum", 0)), (BARE, ("bare", pt(0, 0, 0, 0)), ("bound",)),
                (BARE, ("bare", pt(0, 1, 1, -1)), ("weight", 3)), (BARE, ("bare", pt(0, 1, 1, 1), 0), ("form",))]:
            self.assertEqual(self.both(weights.judge_greatest, referees.judge_greatest, value, room, form), fault)
        self.anything(weights.judge_greatest, [("bare", 1), ("far", 2), ("most", 3)], TRIANGLE, form)


class TestFollows(Judged):
    def test_all_sorts(self):
        told = seeded(54)
        words, faults = {}, {}
        for room in rooms_of_all_sorts(told, 300):
            if room[1] and told.random() < 0.5:
                a, b = told.choice(room[1])
                row = (a, b + told.choice([-1, 0, 1]))
            else:
                row = (tuple(told.randint(-2, 2) for _ in range(room[0])), told.randint(-3, 9))
            paper = unchanged(self, weights.following_paper, room, row)
            self.assertIsNone(self.both(weights.judge_following, referees.judge_following, paper, room, row))
            self.assertIs(weights.follows(room, row), paper[0] != "point")
            words[paper[0]] = True
            faults.update(self.changes(told, weights.judge_following, referees.judge_following, paper, room, row))
        self.assertEqual(sorted(words), ["bare", "point", "weights"])
        self.assertEqual(sorted(faults), ["bound", "form", "row", "sum", "weight", "within"])

    def test_far_rows(self):
        for b in (-10 ** 30, -1, 0, 5, 10 ** 30):
            paper = weights.following_paper(WEDGE, ((3, -2), b))
            self.assertEqual(paper[0], "point")
            self.assertIsNone(weights.judge_following(WEDGE, ((3, -2), b), paper))
        self.assertEqual(weights.following_paper((0, ()), ((), 0)), ("weights", ()))
        self.assertEqual(weights.following_paper((0, ()), ((), -1)), ("point", ()))

    def test_judge(self):
        row = ((1, 1), 4)
        for value, fault in [
                (("weights", pt(0, 1, 1)), None), (("weights", pt(1, 1, 2)), ("sum", 1)),
                (("weights", pt(2, 1, 1)), ("sum", 0)), (("weights", pt(2, -1, 1)), ("weight", 1)),
                (("point", pt(4, 0)), ("within",)), (("point", pt(9, 9)), ("row", 2)), (("point", pt(0,)), ("form",)),
                (("weights", pt(0, 1)), ("form",)), (("bare", pt(0, 0, 0)), ("bound",))]:
            self.assertEqual(self.both(weights.judge_following, referees.judge_following, value, TRIANGLE, row), fault)
        self.assertEqual(weights.judge_following(TRIANGLE, ((1, 1), 3), ("weights", pt(0, 1, 1))), ("bound",))
        self.assertIsNone(weights.judge_following(TRIANGLE, ((1, 1), 3), ("point", pt(4, 0))))
        self.assertIsNone(weights.judge_following(TRIANGLE, ((1, 1), 5), ("weights", pt(0, 1, 1))))
        self.anything(weights.judge_following, [("bare", 1), ("weights", 1), ("point", 1)], TRIANGLE, row)


class TestBounds(Judged):
    def test_all_sorts(self):
        told = seeded(55)
        words, faults = {}, {}
        for room in rooms_of_all_sorts(told, 300):
            paper = unchanged(self, weights.bound_paper, room)
            self.assertIsNone(self.both(weights.judge_bound, referees.judge_bound, paper, room))
            self.assertIs(weights.is_bounded(room), paper[0] != "way")
            words[paper[0]] = True
            faults.update(self.changes(told, weights.judge_bound, referees.judge_bound, paper, room))
        self.assertEqual(sorted(words), ["bare", "box", "way"])
        self.assertEqual(sorted(faults), ["bound", "form", "row", "still", "sum", "way", "weight"])

    def test_by_hand(self):
        self.assertEqual(weights.bound_paper((0, ())), ("box", ()))
        self.assertIs(weights.is_bounded((1, ())), False)
        self.assertIs(weights.is_bounded((2, (((1, 1), 3), ((-1, -1), -3)))), False)
        self.assertIs(weights.is_bounded((2, (((0, 0), -3),))), True)
        self.assertIs(weights.is_bounded(TRIANGLE), True)
        self.assertIs(weights.is_bounded(WEDGE), False)

    def test_judge(self):
        box = ((pt(1, 0, 0), pt(0, 2, 1)), (pt(0, 1, 0), pt(Fraction(1, 2), 0, Fraction(1, 2))))
        for room, value, fault in [
                (TRIANGLE, ("box", box), None), (TRIANGLE, ("box", box[:1]), ("form",)),
                (TRIANGLE, ("box", (box[0], box[0])), ("sum", 1, 0, 0)),
                (TRIANGLE, ("box", (box[1], box[0])), ("sum", 0, 0, 0)),
                (TRIANGLE, ("box", ((box[0][0], box[0][0]), box[1])), ("sum", 0, 1, 0)),
                (TRIANGLE, ("box", ((pt(1, 0, 0), pt(-1, 2, -1)), box[1])), ("weight", 0, 1, 0)),
                (TRIANGLE, ("box", (box[0], (pt(0, 1, -1), pt(0, -1, 0)))), ("weight", 1, 0, 2)),
                (TRIANGLE, ("box", (box[0], (pt(0, 2, 0), pt(0, -1, 0)))), ("sum", 1, 0, 1)),
                (TRIANGLE, ("box", (box[0], list(box[1]))), ("form",)),
                (BARE, ("bare", pt(0, 1, 1, 1)), None), (BARE, ("bare", pt(1, 1, 1, 1)), ("sum", 0)),
                (WEDGE, ("way", pt(0, 0), pt(1, 1)), None), (WEDGE, ("way", pt(0, 0), pt(0, 0)), ("still",)),
                (WEDGE, ("way", pt(0, -1), pt(0, 0)), ("row", 1)), (WEDGE, ("way", pt(0, 0), pt(-1, -1)), ("way", 0)),
                (WEDGE, ("way", pt(0, 0)), ("form",))]:
            self.assertEqual(self.both(weights.judge_bound, referees.judge_bound, value, room), fault)
        self.anything(weights.judge_bound, [("bare", 1), ("box", 1), ("way", 2)], TRIANGLE)


class TestInside(Judged):
    def test_all_sorts(self):
        told = seeded(56)
        words, faults, alike = {}, {}, {}
        for room in rooms_of_all_sorts(told, 300):
            n = room[0]
            kind = told.random()
            if kind < 0.4:
                other = (n, tuple((a, b + told.randint(0, 2)) for a, b in room[1]))
            elif kind < 0.6:
                other = (n, tuple(reversed(room[1])) + room[1][:1])
            else:
                other = random_room(told, n, told.randint(0, 4), 3, "full")
            paper = unchanged(self, weights.inside_paper, room, other)
            self.assertIsNone(self.both(weights.judge_inside, referees.judge_inside, paper, room, other))
            self.assertIs(weights.is_inside(room, other), paper[0] != "point")
            same = weights.are_alike(room, other)
            self.assertIs(same, weights.is_inside(room, other) and weights.is_inside(other, room))
            alike[same] = True
            words[paper[0]] = True
            faults.update(self.changes(told, weights.judge_inside, referees.judge_inside, paper, room, other))
        self.assertEqual(sorted(words), ["bare", "point", "rows"])
        self.assertEqual(len(alike), 2)
        self.assertEqual(sorted(faults), ["bound", "form", "row", "sum", "weight", "within"])

    def test_judge(self):
        other = (2, (((1, 0), 4), ((1, 1), 4)))
        some = (pt(0, 2, 1), pt(0, 1, 1))
        for value, fault in [
                (("rows", some), None), (("rows", some[:1]), ("form",)), (("rows", list(some)), ("form",)),
                (("rows", (some[1], some[1])), ("sum", 0, 1)), (("rows", (some[0], some[0])), ("sum", 1, 1)),
                (("rows", (some[0], pt(0, 1, -1))), ("weight", 1, 2)), (("rows", (pt(-1, 0, 0), pt(-1, 0, 0))), ("weight", 0, 0)),
                (("point", pt(0, 0)), ("within",)), (("point", pt(-1, 0)), ("row", 0)), (("point", pt(9, 9)), ("row", 2)),
                (("bare", pt(0, 0, 0)), ("bound",))]:
            self.assertEqual(self.both(weights.judge_inside, referees.judge_inside, value, TRIANGLE, other), fault)
        less = (2, (((1, 0), 4), ((1, 1), 3)))
        self.assertEqual(weights.judge_inside(TRIANGLE, less, ("rows", some)), ("bound", 1))
        self.assertIsNone(weights.judge_inside(TRIANGLE, less, ("point", pt(4, 0))))
        self.assertIs(weights.is_inside(TRIANGLE, less), False)
        self.assertIs(weights.is_inside(less, TRIANGLE), False)
        self.assertIs(weights.is_inside(BARE, less), True)
        self.assertIs(weights.are_alike(BARE, (2, (((0, 0), -5),))), True)
        self.assertIs(weights.are_alike(TRIANGLE, (2, ())), False)
        self.anything(weights.judge_inside, [("bare", 1), ("rows", 1), ("point", 1)], TRIANGLE, other)


class TestGreat(unittest.TestCase):
    def test_sixty_rows_of_sixty_figures(self):
        told = seeded(57)
        big = 10 ** 60
        for kind in ("any", "full", "point", "flat"):
            room = random_room(told, 6, 59, big, kind)
            other = random_room(told, 6, 20, big, "full")
            form = tuple(fr(told.randint(-big, big), 7) for _ in range(6))
            answer = weights.greatest(room, form)
            self.assertIsNone(weights.judge_greatest(room, form, answer))
            self.assertIsNone(weights.judge_bound(room, weights.bound_paper(room)))
            self.assertIsNone(weights.judge_inside(room, other, weights.inside_paper(room, other)))
            self.assertIs(weights.are_alike(room, (6, tuple(reversed(room[1])))), True)

    def test_far_away(self):
        far = 10 ** 60
        for n in range(1, 7):
            room = (n, tuple((a, b + far * sum(a)) for a, b in cube(n)[1]))
            answer = weights.greatest(room, pt(*[1] * n))
            self.assertEqual(number(answer[1]), n * far + n)
            self.assertEqual(weights.bound_paper(room)[0], "box")
            self.assertIs(weights.is_inside(room, cube(n)), False)
            self.assertTrue(is_within(room, numbers(answer[2])))
            self.assertEqual(product_of([1] * n, numbers(answer[2])), n * far + n)


class TestPlant(unittest.TestCase):
    def plant(self, wishes, gusts):
        m, k = wishes[0], gusts[0]
        return ((pt(1),), (pt(*[1] * m),), (pt(*[1] * k),), pt(0), wishes, gusts)

    def test_faults(self):
        line, open_line, bare = cube(1), (1, (((1,), 1),)), (1, (((1,), 1), ((-1,), -2)))
        self.assertIsNone(unchanged(self, weights.plant_fault, self.plant(line, line)))
        self.assertIsNone(weights.plant_fault(self.plant((0, ()), (0, ()))))
        for wishes, gusts, word, sort in [
                (open_line, line, "wishes", "way"), (line, open_line, "gusts", "way"), (bare, line, "wishes", "bare"),
                (line, bare, "gusts", "bare"), (open_line, bare, "wishes", "way"), (bare, open_line, "wishes", "bare"),
                ((0, (((), -1),)), line, "wishes", "bare"), (line, (2, ()), "gusts", "way")]:
            fault = weights.plant_fault(self.plant(wishes, gusts))
            self.assertEqual((len(fault), fault[0], fault[1][0]), (2, word, sort))
            room = wishes if word == "wishes" else gusts
            self.assertIsNone(weights.judge_bound(room, fault[1]))
