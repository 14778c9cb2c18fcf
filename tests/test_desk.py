import unittest
from fractions import Fraction

from everygust.corners import corners
from everygust.desk import Desk
from everygust.errors import BadAct, BadAsk, NothingDone, TooGreat, UnknownName
from everygust.keeping import layers
from everygust.levels import levels
from everygust.prices import price_levels, worth
from everygust.rows import is_in
from everygust.steps import leads_out
from everygust.wishes import good_wishes
from tests.desks import (
    PARTS, behind, found_in, is_bounded_by_trying, is_point_in, is_right, is_steps, some_act, word_due)
from tests.helpers import ODD, corners_by_trying, cube, is_within, polygon, pt, seeded
from tests.plants import DRIFT, SLIDE, STILL, from_numbers, points_within
from tests.test_levels import stretch
from tests.test_lots import rough
from tests.test_steps import never


def desk_with(*parts):
    found = Desk()
    found.do(("sheet", parts or PARTS))
    return found


def travelling(left=2, point="x"):
    found = desk_with()
    found.do(("start", "drift", "walls", "goal", left, point))
    return found


def told(desk, call, *args):
    """What a question is answered, or the word that it has."""
    try:
        return ("told", getattr(desk, call)(*args))
    except BadAsk as why:
        return ("no", why.word)
    except TooGreat:
        return ("great",)


QUESTIONS = [("corners", (name,)) for name in ("walls", "box", "far", "none", "x", "nobody", None, 3)]
QUESTIONS += [("inside", pair) for pair in (("goal", "walls"), ("walls", "goal"), ("walls", "box"), ("x", "nobody"),
    ("walls", "x"), ("far", "none"), ("none", "far"))]
QUESTIONS += [("level", args) for args in (
    ("drift", "walls", "goal", 2), ("drift", "walls", "goal", 0), ("drift", "walls", "goal", 7),
    ("slide", "walls", "goal", 1),
    ("slide", "box", "small", 1), ("wrong", "walls", "far", 9), ("drift", "far", "goal", 9),
    ("drift", "walls", "far", True), ("walls", "walls", "goal", 1),
    ("nobody", "x", "x", 1), ("drift", "none", "goal", 1))]
QUESTIONS += [("kept", args) for args in (
    ("drift", "walls", 3), ("slide", "box", 1), ("slide", "walls", 1), ("wrong", "walls", 9), ("drift", "far", -1),
    ("drift", "walls", "3"), ("drift", "none", 0),
    ("drift", "x", 0), ("nobody", "walls", 0))]
QUESTIONS += [("is_led", ()), ("wishes", ())]
QUESTIONS += [("answer", (wish,)) for wish in (pt(0), pt(2), pt(-2), pt(Fraction(1, 2)), pt(3), (), None, [(0, 1)],
    ((2, 2),), pt(0, 0))]
QUESTIONS += [("price", (name,)) for name in ("effort", "flat", "walls", "nobody", ())]


def answer_due(desk, call, args):
    """What a question is answered, by what the sheet and the trip are, told a second time."""
    sheet, trip = desk.sheet(), desk.trip()
    named = {"corners": ["room"], "inside": ["room"] * 2, "level": ["plant", "room", "room"], "kept": ["plant", "room"],
        "price": ["cost"]}
    sorts = named.get(call, [])
    parts = [found_in(sheet, name) for name in args[:len(sorts)]]
    words = ["name"] * (None in parts)
    words += ["sort"] * (not words and [sort for sort, _ in parts] != sorts)
    words += ["trip"] * (trip is None and call in ("is_led", "wishes", "answer", "price"))
    if words:
        return ("no", words[0])
    values = [value for _, value in parts]
    if call == "corners":
        room = values[0]
        if not corners_by_trying(room) and (room[0] == 0 or is_bounded_by_trying(room)):
            return ("no", "bare")
        return ("told", corners(room)) if is_bounded_by_trying(room) else ("no", "far")
    if call == "inside":
        if values[0][0] != values[1][0]:
            return ("no", "fit")
        if not is_bounded_by_trying(values[0]):
            return ("told", values[1] == values[0])
        return ("told", all(is_within(values[1], x) for x in corners_by_trying(values[0])))
    if call in ("level", "kept"):
        if any(room[0] != len(values[0][0]) for room in values[1:]):
            return ("no", "fit")
        if not is_right(values[0]):
            return ("no", "plant")
        if not all(is_bounded_by_trying(room) for room in values[1:]):
            return ("no", "walls")
        if not is_steps(args[-1]):
            return ("no", "steps")
        if call == "level":
            return ("told", levels(*values, args[-1])[-1])
        word, rooms = layers(*values, args[-1])
        return ("told", (word, len(rooms) - 1))
    plant, walls, goal, left, _, x = trip
    if call == "price":
        cost = values[0]
        if len(cost[0][0][0]) != len(plant[0]) or len(cost[0][0][1]) != plant[4][0]:
            return ("no", "fit")
        return ("told", worth(price_levels(plant, walls, goal, cost, left)[left], x))
    rooms = levels(plant, walls, goal, left)
    if call == "is_led":
        return ("told", is_in(rooms[left], x))
    if call == "wishes":
        return ("told", good_wishes(plant, rooms[left - 1], x) if left and is_in(walls, x) else never(plant[4][0]))
    if left == 0:
        return ("no", "steps")
    if not is_point_in(plant[4], args[0]):
        return ("no", "wish")
    return ("told", leads_out(plant, x, args[0], rooms[left - 1]))


class TestActs(unittest.TestCase):
    def test_new(self):
        desk = Desk()
        self.assertEqual([desk.sheet(), desk.trip(), desk.acts(), desk.work(), desk.marks()], [(), None, [], 0, []])
        self.assertRaises(NothingDone, desk.undo)
        self.assertRaises(NothingDone, desk.redo)

    def test_each_word(self):
        desk = desk_with()
        one = ("room", "walls", rough(0, 1))
        full = Desk()
        full.do(("sheet", tuple(("room", f"a{k}", rough(0, k)) for k in range(30))))
        for told_desk, act, word in [
                (desk, ("sheet", PARTS + PARTS[:1]), "sheet"), (desk, ("sheet", list(PARTS)), "sheet"),
                (desk, ("sheet", ()), None),
                (desk, ("put", one), None), (desk, ("put", ("room", "walls", (7, ()))), "part"),
                (desk, ("put", ("point", "sheet", ())), "part"),
                (desk, ("put", ("point", "p", pt(*range(7)))), "part"), (desk, ("put", list(one)), "part"),
                (full, ("put", one), "many"),
                (full, ("put", ("point", "a7", pt(1))), None), (full, ("put", ("room", "b", 7)), "part"),
                (desk, ("drop", "walls"), None), (desk, ("drop", "nobody"), "name"), (desk, ("drop", "room"), "name"),
                (desk, ("drop", None), "name"),
                (desk, ("row", "nobody", 1), "name"), (desk, ("row", "x", 1), "sort"),
                (desk, ("row", "walls", ((1, 1), 1)), "row"),
                (desk, ("row", "walls", ((True,), 1)), "row"), (desk, ("row", "walls", ((2,), 4)), None),
                (desk, ("start", "nobody", "x", "x", 9, "x"), "name"),
                (desk, ("start", "drift", "walls", "goal", 2, "nobody"), "name"),
                (desk, ("start", "drift", "walls", "x", 9, "x"), "sort"),
                (desk, ("start", "walls", "walls", "goal", 9, "x"), "sort"),
                (desk, ("start", "wrong", "box", "far", 9, "x"), "fit"),
                (desk, ("start", "wrong", "walls", "far", 9, "z"), "fit"),
                (desk, ("start", "wrong", "walls", "far", 9, "x"), "plant"),
                (desk, ("start", "loose", "walls", "goal", 2, "x"), "plant"),
                (desk, ("start", "drift", "far", "goal", 9, "x"), "walls"),
                (desk, ("start", "drift", "walls", "far", 2, "x"), "walls"),
                (desk, ("start", "drift", "none", "goal", 2, "x"), None),
                (desk, ("start", "drift", "walls", "goal", 7, "x"), "steps"),
                (desk, ("start", "drift", "walls", "goal", -1, "x"), "steps"),
                (desk, ("start", "drift", "walls", "goal", True, "x"), "steps"),
                (desk, ("start", "drift", "walls", "goal", 6, "x"), None),
                (desk, ("start", "drift", "walls", "goal", None, "y"), "steps"),
                (desk, ("step", pt(0), pt(0)), "trip"), (desk, ("end",), "trip"),
                (travelling(0), ("step", pt(0), pt(0)), "trip"),
                (travelling(), ("step", pt(3), pt(3)), "wish"), (travelling(), ("step", pt(0, 0), pt(3)), "wish"),
                (travelling(), ("step", pt(2), pt(3)), "gust"),
                (travelling(), ("step", pt(2), None), "gust"), (travelling(), ("step", pt(2), pt(1)), None),
                (travelling(), ("end",), None),
                (desk, (), "form"), (desk, ("end", 1), "form"), (desk, ("stop",), "form"), (desk, ["end"], "form"),
                (desk, "end", "form"), (desk, None, "form"),
                (desk, ("put",), "form"), (desk, ("start", "drift", "walls", "goal", 2), "form"),
                (desk, (("end",),), "form")]:
            before = (told_desk.sheet(), told_desk.trip(), told_desk.acts())
            self.assertEqual(told_desk.act_word(act), word, act)
            self.assertEqual(word_due(*before[:2], act), word, act)
            if word is not None:
                with self.assertRaises(BadAct) as caught:
                    told_desk.do(act)
                self.assertEqual(caught.exception.word, word)
            self.assertEqual((told_desk.sheet(), told_desk.trip(), told_desk.acts()), before)

    def test_anything(self):
        for desk in (Desk(), travelling()):
            for odd in ODD:
                for act in [odd] + [(word,) + (odd,) * k for word,
                        k in (("sheet", 1), ("put", 1), ("drop", 1), ("row", 2), ("start", 5), ("step", 2), ("end", 0),
                        (odd, 1))] + [
                        ("row", "walls", odd), ("start", "drift", "walls", "goal", odd, "x"), ("step", pt(0), odd),
                        ("put", ("room", odd, rough(0, 1)))]:
                    self.assertEqual(desk.act_word(act), word_due(desk.sheet(), desk.trip(), act), act)

    def test_what_acts_do(self):
        desk = Desk()
        self.assertEqual(desk.do(("put", PARTS[0])), 1)
        self.assertEqual(desk.do(("put", ("room", "a", rough(-6, 6)))), 2)
        self.assertEqual(desk.do(("put", ("point", "x", pt(2)))), 3)
        desk.do(("put", ("room", "drift", rough(0, 1))))
        self.assertEqual([part[:2] for part in desk.sheet()], [("room", "drift"), ("room", "a"), ("point", "x")])
        desk.undo()
        desk.do(("row", "a", ((2,), 6)))
        desk.do(("row", "a", ((0,), 6)))
        self.assertEqual(desk.sheet()[1], ("room", "a", (1, (((1,), 6), ((-1,), 6), ((1,), 3), ((0,), 0)))))
        desk.do(("start", "drift", "a", "a", 2, "x"))
        # The trip keeps what stood in the sheet.
        desk.do(("drop", "a"))
        walls = (1, (((1,), 6), ((-1,), 6), ((1,), 3), ((0,), 0)))
        self.assertEqual(desk.trip(), (DRIFT, walls, walls, 2, (), pt(2)))
        desk.do(("step", pt(-2), pt(Fraction(1, 2))))
        self.assertEqual(desk.trip(), (DRIFT, walls, walls, 1, ((pt(2), pt(-2), pt(Fraction(1, 2))),),
            pt(Fraction(1, 2))))
        self.assertEqual(desk.do(("end",)), 9)
        self.assertIsNone(desk.trip())
        self.assertEqual(desk.acts()[-2:], [("step", pt(-2), pt(Fraction(1, 2))), ("end",)])

    def test_lists_are_new(self):
        desk = travelling()
        for call in (desk.acts, desk.marks, lambda: desk.corners("walls")):
            found = call()
            found.append("more")
            self.assertEqual(call(), found[:-1])

    def test_in_any_sequence(self):
        rnd = seeded(541)
        words = {}
        for _ in range(60):
            desk, state, past, later = Desk(), [((), None)], [], []
            for _ in range(40):
                kind = rnd.random()
                if kind < 0.15:
                    if past:
                        later.append(past.pop())
                        state.pop()
                        self.assertEqual(desk.undo(), len(past))
                    else:
                        self.assertRaises(NothingDone, desk.undo)
                elif kind < 0.25:
                    if later:
                        past.append(later.pop())
                        state.append(behind(*state[-1], past[-1]))
                        self.assertEqual(desk.redo(), len(past))
                    else:
                        self.assertRaises(NothingDone, desk.redo)
                else:
                    act = some_act(rnd, *state[-1])
                    word = word_due(*state[-1], act)
                    words[act[0] if type(act) is tuple and act and type(act[0]) is str else "", word] = True
                    self.assertEqual(desk.act_word(act), word, act)
                    if word is None:
                        past.append(act)
                        state.append(behind(*state[-1], act))
                        later = []
                        self.assertEqual(desk.do(act), len(past))
                    else:
                        self.assertRaises(BadAct, desk.do, act)
                self.assertEqual((desk.sheet(), desk.trip(), desk.acts()), (*state[-1], past))
        due = {("sheet", None), ("sheet", "sheet"), ("put", None), ("put", "part"), ("drop", None), ("drop", "name"),
            ("row", None), ("row", "name"),
               ("row", "sort"), ("row", "row"), ("start", None), ("start", "name"), ("step", None), ("step", "trip"),
               ("step", "wish"), ("step", "gust"),
               ("end", None), ("end", "trip")}
        self.assertTrue(due <= set(words), due - set(words))


class TestDoneAgain(unittest.TestCase):
    def test_undo_and_redo(self):
        desk = Desk()
        for k in range(3):
            desk.do(("put", ("point", f"p{k}", pt(k))))
        self.assertEqual([desk.undo(), desk.undo()], [2, 1])
        # A refused act, a mark, a question, and what is done again take nothing else away.
        self.assertRaises(BadAct, desk.do, ("end",))
        desk.mark("a")
        self.assertRaises(BadAsk, desk.corners, "nobody")
        self.assertEqual(desk.redo(), 2)
        self.assertEqual(desk.redo(), 3)
        self.assertRaises(NothingDone, desk.redo)
        desk.undo()
        # Not even an equal act leaves what can be done again.
        desk.do(("put", ("point", "p2", pt(2))))
        self.assertRaises(NothingDone, desk.redo)
        self.assertEqual(len(desk.acts()), 3)

    def test_marks(self):
        desk = Desk()
        self.assertIsNone(desk.mark("b"))
        desk.do(("put", ("point", "p", pt(1))))
        desk.mark("a1")
        desk.do(("put", ("point", "q", pt(1))))
        self.assertEqual([desk.since("b"), desk.since("a1"), desk.marks()], [2, 1, ["a1", "b"]])
        desk.undo()
        desk.undo()
        self.assertEqual([desk.since("b"), desk.since("a1")], [0, -1])
        desk.mark("a1")
        self.assertEqual(desk.since("a1"), 0)
        for name in ("c", "", None, 7, [], ("a1",), {"b": 1}, "sheet"):
            with self.assertRaises(UnknownName) as caught:
                desk.since(name)
            self.assertEqual(caught.exception.name, name)
        self.assertEqual(desk.acts(), [])

    def test_twin(self):
        desk = travelling()
        desk.do(("step", pt(-2), pt(0)))
        desk.undo()
        desk.mark("m")
        desk.is_led()
        twin = desk.twin()
        for told_desk, other in ((twin, desk), (desk.twin(), twin)):
            self.assertEqual((told_desk.sheet(), told_desk.trip(), told_desk.acts(), told_desk.work(),
                told_desk.marks()),
                             (other.sheet(), other.trip(), other.acts(), other.work(), other.marks()))
        self.assertEqual(twin.redo(), 3)
        twin.mark("n")
        twin.do(("end",))
        twin.level("slide", "box", "small", 3)
        self.assertEqual((len(desk.acts()), desk.marks(), desk.trip()[3], desk.work()), (2, ["m"], 2, 2))
        self.assertEqual((len(twin.acts()), twin.marks(), twin.trip(), twin.work()), (4, ["m", "n"], None, 5))
        self.assertEqual(desk.redo(), 3)
        self.assertEqual(desk.since("m"), 1)
        self.assertRaises(NothingDone, desk.redo)
        # A twin knows what is known: a level that was worked out is not worked out again, and counts already.
        self.assertEqual(desk.twin().level("drift", "walls", "goal", 2), stretch(-3, 3))
        self.assertEqual(desk.work(), 2)


class TestQuestions(unittest.TestCase):
    def test_by_hand(self):
        desk = travelling()
        for call, args, due in [
                ("corners", ("walls",), ("told", [pt(-6), pt(6)])), ("corners", ("none",), ("no", "bare")),
                ("corners", ("far",), ("no", "far")),
                ("corners", ("x",), ("no", "sort")), ("corners", ("nobody",), ("no", "name")),
                ("inside", ("goal", "walls"), ("told", True)),
                ("inside", ("walls", "goal"), ("told", False)), ("inside", ("walls", "box"), ("no", "fit")),
                ("inside", ("x", "nobody"), ("no", "name")),
                ("level", ("drift", "walls", "goal", 2), ("told", stretch(-3, 3))),
                ("level", ("drift", "walls", "goal", 7), ("no", "steps")),
                ("level", ("wrong", "box", "far", 7), ("no", "fit")),
                ("level", ("wrong", "far", "goal", 7), ("no", "plant")),
                ("level", ("drift", "far", "goal", 7), ("no", "walls")),
                ("kept", ("drift", "walls", 3), ("told", ("closed", 0))),
                ("kept", ("drift", "far", 7), ("no", "walls")), ("kept", ("slide", "walls", 7), ("no", "fit")),
                ("kept", ("drift", "none", 3), ("told", ("bare", 0))),
                ("is_led", (), ("told", True)), ("wishes", (), ("told", stretch(-2, -1))),
                ("answer", (pt(0),), ("told", pt(1))), ("answer", (pt(-2),), ("told", None)),
                ("answer", (pt(3),), ("no", "wish")), ("price", ("effort",), ("told", (4, 1))),
                ("price", ("flat",), ("no", "fit")), ("price", ("walls",), ("no", "sort"))]:
            self.assertEqual(told(desk, call, *args), due, (call, args))
        for call, args in (("is_led", ()), ("wishes", ()), ("answer", (None,)), ("price", ("effort",))):
            self.assertEqual(told(desk_with(), call, *args), ("no", "trip"))
        self.assertEqual(told(desk_with(), "price", "nobody"), ("no", "name"))
        self.assertEqual(told(desk_with(), "price", "x"), ("no", "sort"))
        end = travelling(0)
        self.assertEqual(told(end, "answer", pt(9)), ("no", "steps"))
        self.assertEqual(told(end, "wishes"), ("told", never(1)))
        self.assertEqual(told(end, "is_led"), ("told", False))
        self.assertEqual(told(end, "price", "effort"), ("told", None))
        beyond = desk_with(*PARTS, ("point", "w", pt(9)))
        beyond.do(("start", "drift", "walls", "goal", 2, "w"))
        self.assertEqual(told(beyond, "wishes"), ("told", never(1)))
        self.assertEqual(told(beyond, "is_led"), ("told", False))
        self.assertEqual(told(beyond, "answer", pt(-2)), ("told", pt(-1)))

    def test_behind_acts_in_any_sequence(self):
        rnd = seeded(542)
        words = {}
        for _ in range(20):
            desk = Desk()
            desk.do(("sheet", PARTS))
            for _ in range(rnd.randint(1, 12)):
                act = some_act(rnd, desk.sheet(), desk.trip())
                if desk.act_word(act) is None:
                    desk.do(act)
                    if rnd.random() < 0.2:
                        desk.undo()
                        if rnd.random() < 0.5:
                            desk.redo()
            anew = Desk()
            for act in desk.acts():
                anew.do(act)
            self.assertEqual((anew.sheet(), anew.trip()), (desk.sheet(), desk.trip()))
            for call, args in rnd.sample(QUESTIONS, 30):
                before = (desk.sheet(), desk.trip(), desk.acts())
                found = told(desk, call, *args)
                self.assertEqual(found, told(anew, call, *args))
                self.assertEqual(found, answer_due(desk, call, args), (call, args))
                self.assertEqual(found, told(desk, call, *args))
                self.assertEqual((desk.sheet(), desk.trip(), desk.acts()), before)
                words[call, found[1] if found[0] == "no" else ""] = True
        due = {("corners", word) for word in ("", "name", "sort", "bare", "far")} | {("inside", word)
            for word in ("", "name", "sort", "fit")}
        due |= {("level", word) for word in ("", "name", "sort", "fit", "plant", "walls", "steps")} | {("answer", word)
            for word in ("", "trip", "wish")}
        due |= {("kept", word) for word in ("", "name", "fit", "plant", "walls", "steps")} | {("is_led", ""),
            ("is_led", "trip"), ("wishes", ""), ("price", "trip")}
        self.assertTrue(due <= set(words), due - set(words))

    def test_led_by_wishes_without_an_answer(self):
        rnd = seeded(543)
        for _ in range(30):
            plant = rnd.choice([DRIFT, SLIDE])
            name, walls, goal = ("drift", "walls", "goal") if plant == DRIFT else ("slide", "box", "small")
            point = from_numbers(rnd.choice(points_within(rough(-7, 7) if plant == DRIFT else cube(2, -4, 4), rnd, 5)))
            desk = desk_with(*PARTS, ("point", "here", point))
            left = rnd.randint(0, 3)
            desk.do(("start", name, walls, goal, left, "here"))
            was_led = desk.is_led()
            while desk.trip()[3]:
                if was_led:
                    wish = from_numbers(rnd.choice(points_within(desk.wishes(), rnd, 2)))
                    self.assertIsNone(desk.answer(wish))
                    gust = from_numbers(rnd.choice(points_within(plant[5], rnd, 2)))
                else:
                    wish = from_numbers(rnd.choice(points_within(plant[4], rnd, 2)))
                    gust = desk.answer(wish)
                    if gust is None:
                        # Only beyond the walls may a wish have no answer; the foe need not care then.
                        self.assertFalse(is_in(desk.trip()[1], desk.trip()[5]))
                        gust = from_numbers(points_within(plant[5], rnd, 0)[0])
                desk.do(("step", wish, gust))
                if was_led:
                    self.assertTrue(desk.is_led())
            trip = desk.trip()
            standings = [x for x, _, _ in trip[4]] + [trip[5]]
            kept = all(is_in(trip[1], x) for x in standings) and is_in(trip[2], trip[5])
            self.assertIs(kept, was_led)

    def test_too_great(self):
        great = desk_with(("plant", "held", STILL), ("room", "a", polygon(81)), ("room", "b", polygon(301)),
            ("room", "c", polygon(80)), ("point", "x", pt(1, 1)),
                          ("cost", "k", ((((0, 0), (), 1),), (((0, 0), 0),))))
        self.assertEqual(told(great, "level", "held", "a", "a", 0), ("great",))
        self.assertEqual(told(great, "level", "held", "a", "a", 9), ("no", "steps"))
        self.assertEqual(told(great, "kept", "held", "a", 0), ("great",))
        self.assertEqual(told(great, "corners", "b"), ("great",))
        self.assertEqual(told(great, "inside", "b", "b"), ("told", True))
        great.do(("start", "held", "a", "a", 1, "x"))
        for call, args in (("is_led", ()), ("wishes", ()), ("answer", ((),)), ("price", ("k",))):
            self.assertEqual(told(great, call, *args), ("great",))
        self.assertEqual(told(great, "answer", pt(1)), ("no", "wish"))
        self.assertEqual(great.work(), 0)
        great.do(("start", "held", "c", "c", 2, "x"))
        self.assertEqual(told(great, "price", "k"), ("great",))
        self.assertEqual(told(great, "is_led"), ("told", True))
        self.assertEqual(great.work(), 2)


class TestWork(unittest.TestCase):
    def test_counts_levels(self):
        desk = travelling(3)
        works = []
        for call, args in [("corners", ("walls",)), ("kept", ("drift", "walls", 3)), ("price", ("effort",)),
                ("inside", ("goal", "walls")),
                           ("answer", (pt(9),)), ("wishes", ()), ("answer", (pt(0),)), ("is_led", ()), ("wishes", ()),
                           ("level", ("drift", "walls", "goal", 2)),
                           ("level", ("drift", "walls", "goal", 5)), ("level", ("drift", "walls", "goal", 7)),
                           ("level", ("drift", "goal", "goal", 1)),
                           ("level", ("drift", "goal", "walls", 0)), ("level", ("slide", "box", "small", 2)),
                           ("level", ("nobody", "box", "small", 2))]:
            told(desk, call, *args)
            works.append(desk.work())
        self.assertEqual(works, [0, 0, 0, 0, 0, 2, 2, 3, 3, 3, 5, 5, 6, 6, 8, 8])
        # Equal tasks count once, whatever the names; work stays, whatever is taken back.
        desk.do(("put", ("room", "again", rough(-1, 1))))
        desk.level("drift", "walls", "again", 5)
        self.assertEqual(desk.work(), 8)
        desk.level("drift", "walls", "again", 6)
        self.assertEqual(desk.work(), 9)
        while desk.acts():
            desk.undo()
        self.assertEqual(desk.work(), 9)

    def test_beyond_the_walls_and_without_steps(self):
        desk = desk_with(*PARTS, ("point", "w", pt(9)))
        desk.do(("start", "drift", "walls", "goal", 3, "w"))
        desk.wishes()
        self.assertEqual(desk.work(), 2)
        desk.do(("start", "drift", "walls", "walls", 0, "x"))
        desk.wishes()
        self.assertRaises(BadAsk, desk.answer, pt(0))
        desk.is_led()
        self.assertEqual(desk.work(), 2)
        desk.do(("start", "drift", "walls", "walls", 1, "x"))
        desk.answer(pt(0))
        self.assertEqual(desk.work(), 2)
        desk.is_led()
        self.assertEqual(desk.work(), 3)
        # An answer by itself needs the level of one step less, too.
        for left, due in ((3, 2), (1, 0)):
            desk = travelling(left)
            desk.answer(pt(0))
            self.assertEqual(desk.work(), due)

    def test_beyond_the_walls_no_wish_is_told(self):
        # From 13 / 2 wishes lead back within the walls, but it is beyond them.
        desk = desk_with(*PARTS, ("point", "w", pt(Fraction(13, 2))))
        desk.do(("start", "drift", "walls", "walls", 1, "w"))
        self.assertIsNone(desk.answer(pt(-2)))
        self.assertEqual(desk.wishes(), never(1))
        self.assertFalse(desk.is_led())

    def test_costs_that_do_not_fit(self):
        ends = (((0,), 0),)
        desk = desk_with(*PARTS, ("cost", "wide", ((((0,), (0, 0), 0),), ends)),
            ("cost", "long", ((((0, 0), (0,), 0),), (((0, 0), 0),))))
        desk.do(("start", "drift", "walls", "goal", 1, "x"))
        for name in ("wide", "long", "flat"):
            self.assertEqual(told(desk, "price", name), ("no", "fit"))
        self.assertEqual(told(desk, "price", "effort"), ("told", (3, 1)))
