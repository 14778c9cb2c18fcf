import time
import unittest
from fractions import Fraction

from everygust.fractions import times, total
from everygust.solving import greatest_of, judge_mixed, mixed
from tests.helpers import ODD, bare_by_elimination, fr, number, numbers, product_of, pt, random_room, seeded, unchanged


class TestGreatest(unittest.TestCase):
    def look(self, n, rows, form, answer):
        """Looks an answer through by its own sums."""
        f = numbers(form)
        if answer[0] == "bare":
            weights = numbers(answer[1])
            self.assertEqual(len(answer), 2)
            self.assertEqual(len(weights), len(rows))
            self.assertTrue(all(k >= 0 for k in weights))
            for k in range(n):
                self.assertEqual(sum(w * a[k] for w, (a, _) in zip(weights, rows)), 0)
            self.assertLessEqual(sum(w * b for w, (_, b) in zip(weights, rows)), -1)
            return
        point = numbers(answer[1] if answer[0] == "far" else answer[2])
        self.assertEqual(len(point), n)
        self.assertTrue(all(product_of(a, point) <= b for a, b in rows))
        if answer[0] == "far":
            way = numbers(answer[2])
            self.assertEqual((len(answer), len(way)), (3, n))
            self.assertTrue(all(product_of(a, way) <= 0 for a, _ in rows))
            self.assertGreater(product_of(f, way), 0)
            return
        self.assertEqual((answer[0], len(answer)), ("most", 4))
        weights = numbers(answer[3])
        self.assertEqual(len(weights), len(rows))
        self.assertEqual(product_of(f, point), number(answer[1]))
        self.assertTrue(all(k >= 0 for k in weights))
        for k in range(n):
            self.assertEqual(sum(w * a[k] for w, (a, _) in zip(weights, rows)), f[k])
        self.assertEqual(sum(w * b for w, (_, b) in zip(weights, rows)), number(answer[1]))

    def ask(self, n, rows, form):
        answer = unchanged(self, greatest_of, n, tuple(rows), form)
        self.look(n, rows, form, answer)
        return answer

    def test_by_hand(self):
        rows = (((-1, 0), 0), ((0, -1), 0), ((1, 2), 4))
        self.assertEqual(self.ask(2, rows, pt(1, 1))[:3], ("most", (4, 1), pt(4, 0)))
        self.assertEqual(self.ask(2, rows, pt(0, 0))[:2], ("most", (0, 1)))
        self.assertEqual(self.ask(2, rows[:2], pt(1, -1))[0], "far")
        self.assertEqual(self.ask(2, rows[:2], pt(-1, -1))[:2], ("most", (0, 1)))
        self.assertEqual(self.ask(2, rows + (((-1, -1), -5),), pt(1, 1))[0], "bare")
        self.assertEqual(self.ask(2, rows, pt(Fraction(1, 3), Fraction(2, 3)))[:2], ("most", (4, 3)))

    def test_small_edges(self):
        self.assertEqual(self.ask(0, (), ()), ("most", (0, 1), (), ()))
        self.assertEqual(self.ask(0, (((), 0), ((), 3)), ())[0], "most")
        self.assertEqual(self.ask(0, (((), 0), ((), -3)), ())[0], "bare")
        self.assertEqual(self.ask(3, (), pt(0, 0, 0))[0], "most")
        self.assertEqual(self.ask(3, (), pt(0, 0, 1))[0], "far")
        self.assertEqual(self.ask(1, (((0,), -1),), pt(0))[0], "bare")
        self.assertEqual(self.ask(2, (((1, 1), 3), ((-1, -1), -3)), pt(1, 1))[:2], ("most", (3, 1)))
        self.assertEqual(self.ask(2, (((1, 1), 3), ((-1, -1), -3)), pt(1, 2))[0], "far")
        self.assertEqual(self.ask(2, (((1, 1), 3), ((-1, -1), -4)), pt(1, 2))[0], "bare")

    def test_random_and_elimination(self):
        told = seeded(41)
        words = {}
        for k in range(700):
            n = told.randint(0, 4)
            room = random_room(told, n, told.randint(0, 7), told.choice([1, 2, 5]),
                               told.choice(["any", "any", "full", "point", "flat"]))
            form = pt(*[Fraction(told.randint(-5, 5), told.randint(1, 4)) for _ in range(n)])
            answer = self.ask(n, room[1], form)
            words[answer[0]] = words.get(answer[0], 0) + 1
            if k % 3 == 0:
                self.assertEqual(answer[0] == "bare", bare_by_elimination(room))
        self.assertTrue(all(words.get(word, 0) > 40 for word in ("bare", "far", "most")), words)

    def test_rows_that_meet_in_one_point(self):
        told = seeded(42)
        for _ in range(60):
            n = told.randint(2, 6)
            room = random_room(told, n, 30, 1, "point")
            self.ask(n, room[1], pt(*[told.randint(-1, 1) for _ in range(n)]))

    def test_great(self):
        told = seeded(43)
        begin = time.monotonic()
        words = set()
        for kind in ("any", "full", "point", "flat"):
            for many in (12, 80):
                room = random_room(told, 16, many, 10 ** 20 - 1, kind)
                form = pt(*[told.randint(-10 ** 20, 10 ** 20) for _ in range(16)])
                words.add(self.ask(16, room[1][:80], form)[0])
        self.assertEqual(words, {"bare", "far", "most"})
        self.assertLess(time.monotonic() - begin, 120)


    def test_greater_than_the_limits(self):
        told = seeded(47)
        big = 10 ** 75
        words = {}
        for _ in range(60):
            n = told.randint(1, 6)
            room = random_room(told, n, told.randint(1, 14), told.choice([big, 10 ** 49]),
                               told.choice(["any", "full", "point", "flat"]))
            form = pt(*[Fraction(told.randint(-big, big), told.randint(1, big)) for _ in range(n)])
            answer = self.ask(n, room[1], form)
            words[answer[0]] = True
        self.assertEqual(sorted(words), ["bare", "far", "most"])


class TestMixed(unittest.TestCase):
    def look(self, parts, target, paper):
        if paper[0] == "mixed":
            weights = numbers(paper[1])
            self.assertEqual((len(paper), len(weights)), (2, len(parts)))
            self.assertTrue(all(k >= 0 for k in weights))
            for k, member in enumerate(target):
                self.assertEqual(sum(w * number(part[k]) for w, part in zip(weights, parts)), number(member))
        else:
            form = numbers(paper[1])
            self.assertEqual((paper[0], len(paper), len(form)), ("parted", 2, len(target)))
            self.assertTrue(all(product_of(form, numbers(part)) <= 0 for part in parts))
            self.assertGreater(product_of(form, numbers(target)), 0)
        self.assertIsNone(judge_mixed(parts, target, paper))

    def ask(self, parts, target):
        paper = unchanged(self, mixed, parts, target)
        self.assertEqual(mixed(tuple(parts), target), paper)
        self.look(parts, target, paper)
        return paper

    def test_by_hand(self):
        parts = [pt(1, 0), pt(0, Fraction(1, 2))]
        self.assertEqual(self.ask(parts, pt(3, 4)), ("mixed", pt(3, 8)))
        self.assertEqual(self.ask(parts, pt(3, -4))[0], "parted")
        self.assertEqual(self.ask([], pt(0, 0)), ("mixed", ()))
        self.assertEqual(self.ask([], pt(0, 1))[0], "parted")
        self.assertEqual(self.ask([], ()), ("mixed", ()))
        self.assertEqual(self.ask([(), ()], ())[0], "mixed")
        self.assertEqual(self.ask([pt(0, 0)], pt(0, 0))[0], "mixed")

    def test_random(self):
        told = seeded(44)
        words = {}
        for _ in range(400):
            n = told.randint(0, 5)
            big = told.choice([1, 3, 20])

            def form():
                return pt(*[Fraction(told.randint(-big, big), told.randint(1, 4)) for _ in range(n)])
            parts = [form() for _ in range(told.randint(0, 8))]
            if told.random() < 0.5:
                weights = [fr(told.choice([0, 0, 1, 2]), told.randint(1, 3)) for _ in parts]
                target = tuple(total([times(w, part[k]) for w, part in zip(weights, parts)]) for k in range(n))
                self.assertEqual(self.ask(parts, target)[0], "mixed")
            word = self.ask(parts, form())[0]
            words[word] = words.get(word, 0) + 1
        self.assertTrue(all(words.get(word, 0) > 40 for word in ("mixed", "parted")), words)

    def test_great(self):
        told = seeded(45)
        big = 10 ** 20 - 1
        parts = [pt(*[told.randint(-big, big) for _ in range(16)]) for _ in range(80)]
        self.ask(parts, pt(*[told.randint(-big, big) for _ in range(16)]))
        positive = [pt(*[told.randint(1, big) for _ in range(16)]) for _ in range(80)]
        self.assertEqual(self.ask(positive, pt(*[-1] * 16))[0], "parted")
        self.ask(positive, pt(*[told.randint(1, big) for _ in range(16)]))
        halves = [pt(*[Fraction(told.randint(-big, big), told.randint(1, 9)) for _ in range(16)]) for _ in range(30)]
        self.ask(halves, tuple(total([part[k] for part in halves]) for k in range(16)))

    def test_fractions_of_twenty_figures(self):
        told = seeded(46)
        big = 10 ** 20 - 1
        for n, many in ((8, 80), (11, 40)):
            def form(low):
                return pt(*[Fraction(told.randint(low, big), told.randint(1, big)) for _ in range(n)])
            for low in (-big, 0):
                parts = [form(low) for _ in range(many)]
                self.look(parts, parts[3], mixed(parts, parts[3]))
                target = form(low)
                self.look(parts, target, mixed(parts, target))
                self.look(parts[:n], target, mixed(parts[:n], target))

    def test_judge(self):
        parts = [pt(1, 0), pt(0, Fraction(1, 2)), pt(-1, -1)]
        target = pt(3, 4)
        for value, fault in [
                (("mixed", pt(3, 8, 0)), None), (("mixed", pt(4, 10, 1)), None), (("mixed", pt(3, 8)), ("form",)),
                (("mixed", pt(3, 8, -1)), ("weight", 2)), (("mixed", pt(-3, 8, -1)), ("weight", 0)),
                (("mixed", pt(3, 7, 0)), ("sum", 1)), (("mixed", pt(2, 7, 0)), ("sum", 0)),
                (("mixed", pt(2, -7, 0)), ("weight", 1)), (("mixed", [(3, 1), (8, 1), (0, 1)]), ("form",)),
                (("mixed", ((3, 1), (8, 1), (0, 2))), ("form",)), (("mixed", (3, 8, 0)), ("form",)),
                (("parted", pt(1, 1)), ("part", 0)), (("parted", pt(-1, 1)), ("part", 1)),
                (("parted", pt(-1, 0)), ("part", 2)), (("parted", pt(0, 0)), ("target",)),
                (("parted", pt(0, 0, 0)), ("form",)), (("parted", pt(-1, -1)), ("part", 2)),
                (["mixed", pt(3, 8, 0)], ("form",)), (("mixed", pt(3, 8, 0), ()), ("form",)),
                (("mixt", pt(3, 8, 0)), ("form",)), ((True, pt(3, 8, 0)), ("form",))]:
            self.assertEqual(judge_mixed(parts, target, value), fault)
            self.assertEqual(judge_mixed(tuple(parts), target, value), fault)
        self.assertIsNone(judge_mixed([pt(1, 0)], pt(-1, 0), ("parted", pt(-1, 0))))
        self.assertEqual(judge_mixed([pt(1, 0)], pt(1, 0), ("parted", pt(-1, 0))), ("target",))

    def test_judge_anything(self):
        for odd in ODD:
            self.assertEqual(judge_mixed([pt(1, 0)], pt(3, 4), odd), ("form",))
            self.assertEqual(judge_mixed([pt(1, 0)], pt(3, 4), ("mixed", odd)),
                             ("sum", 0) if repr(odd) == "((0, 1),)" else ("form",))
