import unittest
from fractions import Fraction

from everygust.console import Console
from everygust.desk import Desk
from everygust.errors import BadAsk
from everygust.sheets import sheet_text
from tests import grammar
from tests.desks import PARTS, some_act
from tests.helpers import numbers, polygon, pt, seeded
from tests.plants import STILL
from tests.test_desk import desk_with, told, travelling
from tests.test_lots import rough
from tests.test_sheets import WRITTEN

ACT_FORMS = [["SHEET"], ["PART"], ["row", "NAME", "ROW"], ["drop", "NAME", ";"],
    ["start", "NAME", "NAME", "NAME", "NUMERAL", "NAME", ";"],
             ["step", "POINT", "POINT", ";"], ["end", ";"]]
FORMS = ACT_FORMS + [[word, ";"] for word in ("undo", "redo", "led", "wishes", "where", "parts")]
FORMS += [[word, "NAME", ";"] for word in ("mark", "since", "corners", "price")] + [["inside", "NAME", "NAME", ";"]]
FORMS += [["level", "NAME", "NAME", "NAME", "NUMERAL", ";"], ["kept", "NAME", "NAME", "NUMERAL", ";"],
    ["answer", "POINT", ";"]]
grammar.GRAMMAR["LINE"] = FORMS

LINES = ["undo ;", "redo;", "led ;", "wishes ;", "where ;", "parts ;", "mark a;", "since a ;", "since zz;",
    "corners walls ;", "corners far;", "corners none;", "price effort;",
         "inside goal walls ;", "inside walls goal;", "inside walls box ;", "level drift walls goal 2 ;",
         "level drift walls goal 7;", "kept drift walls 3;",
         "kept drift none 1;", "answer (0) ;", "answer (-2);", "answer (5);", "answer (1/0);", "answer ();",
         "step (-1) (1/2) ;", "step (-3) (1);", "step (1/0) (1);",
         "start drift walls goal 2 x ;", "start drift walls goal 9 x;", "end ;", "drop z;", "drop zz ;",
         "row walls 1 <= 5;", "row walls 1 1 <= 5;", "row goal -2 <= -1 ;",
         "room b 1 { 1 <= 4; -1 <= 0; }", "room b 7 { }", "point x (3/2);", "point q (1/0);",
         "point x (1 2 3 4 5 6 7);", "lot l { 1 { } 2 { } }", "sheet { }",
         "sheet { room a 1 { } point a (1); }", "cost k { step (0) (1) 2; end (1) 0; }", "cost k { }"]


def text_of(x):
    return str(Fraction(x))


def text_of_point(point):
    return "(" + " ".join(text_of(x) for x in numbers(point)) + ")"


def text_of_room(room):
    return " ".join([f"{room[0]} {{"] + [" ".join([str(k) for k in a] + ["<=", f"{b};"]) for a, b in room[1]] + ["}"])


def answer_of(desk, line):
    """What a line that is right is answered, by what a desk answers."""
    word, rest = line.replace(";", " ").split(" ", 1)[0], [name for name in line.replace(";", " ").split(" ")
        if name][1:]
    if word in ("corners", "price", "inside", "level", "kept", "led", "wishes"):
        args = [int(name) if name.isdigit() else name for name in rest]
        found = told(desk, {"led": "is_led"}.get(word, word), *args)
        if found[0] == "great":
            return "no great"
        if found[0] == "no":
            return "no " + found[1]
        value = found[1]
        if word == "corners":
            return " ".join(text_of_point(x) for x in value)
        if word in ("inside", "led"):
            return "yes" if value else "no"
        if word == "kept":
            return f"{value[0]} {value[1]}"
        if word == "price":
            return "none" if value is None else text_of(Fraction(*value))
        return text_of_room(value)
    if word == "where":
        return text_of_point(desk.trip()[5]) if desk.trip() else "no trip"
    if word == "parts":
        return " ".join(name for _, name, _ in desk.sheet())
    return None


class TestLines(unittest.TestCase):
    def asked(self, desk, *pairs):
        console = Console(desk)
        for line, answer in pairs:
            self.assertEqual(console.answer(line), answer, line)

    def test_acts(self):
        desk = Desk()
        self.asked(
            desk, ("room a 1 { 1 <= 6; -1 <= 0; }", "done"), ("point x ( 1 /2 );", "done"), ("row a 2 <= 3;", "done"),
            ("row x 2 <= 3;", "no sort"),
            ("row b 2 <= 3 ;", "no name"), ("row a <= 3;", "no row"), ("drop x ;", "done"), ("drop x;", "no name"),
            ("room a 9 { }", "no part"),
            ("room a 1 { 1 1 <= 3; }", "no part"), ("point p (1/0);", "no part"),
            ("sheet { room a 7 { } }", "no sheet"), ("end ;", "no trip"),
            ("step () ();", "no trip"), ("start a a a 1 a;", "no sort"), ("start a a a 1 b;", "no name"),
            ("parts ;", "a"), ("undo ;", "done"), ("redo ;", "done"),
            ("redo ;", "no nothing"), ("parts;", "a"))
        self.assertEqual(desk.acts()[-1], ("drop", "x"))
        self.assertEqual(desk.sheet(), (("room", "a", (1, (((1,), 6), ((-1,), 0), ((2,), 3)))),))
        self.assertEqual(desk.acts()[1:3], [("put", ("point", "x", ((1, 2),))), ("row", "a", ((2,), 3))])
        self.asked(desk, ("sheet { }", "done"), ("parts ;", ""), ("corners a;", "no name"), ("undo ;", "done"),
            ("corners a;", "(0) (3/2)"))

    def test_the_very_desk(self):
        desk = Desk()
        one, other = Console(desk), Console(desk)
        self.assertEqual([one.answer("point x (1);"), other.answer("parts ;"), len(desk.acts())], ["done", "x", 1])
        desk.do(("drop", "x"))
        self.assertEqual(one.answer("parts;"), "")

    def test_sheets(self):
        desk = Desk()
        self.asked(desk, (WRITTEN, "done"))
        self.assertEqual(sheet_text(desk.sheet()), WRITTEN)
        for part in desk.sheet():
            body = sheet_text((part,))[len("sheet {\n"):-len("}\n")]
            self.asked(desk, (body, "done"))
        self.assertEqual(sheet_text(desk.sheet()), WRITTEN)

    def test_trips(self):
        self.asked(
            desk_with(), ("where ;", "no trip"), ("led;", "no trip"), ("wishes;", "no trip"),
            ("answer (0);", "no trip"), ("price effort;", "no trip"),
            ("price walls;", "no sort"), ("start drift walls goal 2 x ;", "done"), ("where ;", "(2)"), ("led ;", "yes"),
            ("wishes ;", "1 { -1 <= 2; 1 <= -1; }"),
            ("answer (0);", "(1)"), ("answer (-1);", "none"), ("answer (-3);", "no wish"), ("answer (1/0);", "no wish"),
            ("answer (0 0);", "no wish"),
            ("price effort;", "4"), ("price flat;", "no fit"), ("step (-3/2) (1/3) ;", "done"), ("where;", "(5/6)"),
            ("price effort;", "11/6"), ("step (3) (9);", "no wish"),
            ("step (2) (9);", "no gust"), ("step (2/4) (1);", "done"), ("where ;", "(7/3)"), ("led ;", "no"),
            ("wishes ;", "1 { 0 <= -1; }"), ("answer (0);", "no steps"),
            ("price effort;", "none"), ("undo ;", "done"), ("where ;", "(5/6)"), ("end ;", "done"),
            ("redo ;", "no nothing"), ("where ;", "no trip"), ("undo ;", "done"),
            ("where ;", "(5/6)"), ("undo;", "done"), ("undo;", "done"), ("undo;", "done"), ("undo;", "no nothing"))

    def test_marks(self):
        self.asked(
            Desk(), ("mark a ;", "done"), ("point x (1);", "done"), ("point y ();", "done"), ("since a ;", "2"),
            ("since b ;", "no mark"), ("mark b;", "done"),
            ("undo ;", "done"), ("since b;", "-1"), ("since a;", "1"), ("undo ;", "done"), ("since b;", "-2"),
            ("since a;", "0"), ("parts ;", ""))

    def test_rooms_and_numbers(self):
        self.asked(
            desk_with(), ("corners walls ;", "(-6) (6)"), ("corners box;", "(-3 -3) (-3 3) (3 -3) (3 3)"),
            ("corners none;", "no bare"), ("corners far;", "no far"),
            ("inside goal walls;", "yes"), ("inside walls goal ;", "no"), ("inside walls box;", "no fit"),
            ("level drift walls goal 1 ;", "1 { -1 <= 2; 1 <= 2; }"),
            ("level held small small 3;", "2 { -1 0 <= 1; 0 -1 <= 1; 0 1 <= 1; 1 0 <= 1; }"),
            ("level drift none goal 1;", "1 { 0 <= -1; }"), ("kept drift walls 4;", "closed 0"),
            ("kept drift walls 0;", "open 0"), ("kept drift none 6;", "bare 0"), ("kept drift walls 7;", "no steps"),
            ("kept wrong walls 7;", "no plant"),
            ("level drift far goal 7;", "no walls"), ("level drift walls goal 12345678901234567890;", "no steps"))
        self.asked(desk_with(("room", "a", polygon(301)), ("room", "b", (0, ())), ("plant", "held", STILL),
            ("room", "c", polygon(81))), ("corners a;", "no great"),
                   ("corners b;", "()"), ("level held c c 1;", "no great"), ("level held a c 9;", "no steps"),
                   ("kept held c 0;", "no great"))

    def test_wrong_places(self):
        self.asked(
            desk_with(), ("undo ; redo ;", "no 7"), ("undo", "no 4"), ("led x ;", "no 4"), ("", "no 0"), ("  ", "no 2"),
            (";", "no 0"), ("7 ;", "no 0"), ("(1)", "no 0"),
            ("stop ;", "no 0"), ("walls ;", "no 0"), ("undo\t;", "no 4"), ("Undo ;", "no 0"), ("undo ; %", "no 7"),
            ("row walls 1 <= ;", "no 15"), ("row room 1 <= 2;", "no 4"),
            ("drop 7;", "no 5"), ("start drift walls goal x 2;", "no 23"), ("start drift walls goal -2 x;", "no 23"),
            ("corners walls", "no 13"), ("corners abcdefghijklm;", "no 8"),
            ("step (1) 1;", "no 9"), ("step (1) (1) 1;", "no 13"), ("kept drift walls 007;", "no 18"),
            ("level drift walls goal 1/2;", "no 24"), ("answer 1;", "no 7"),
            ("sheet { room a 1 { 1 < 2; } }", "no 21"), ("room a 1 { 1 <= 2 }", "no 18"), ("point x (1)", "no 11"),
            ("wishes 1 { }", "no 7"), ("gusts;", "no 0"),
            ("piece ;", "no 0"), ("see ;", "no 0"), ("mark sheet ;", "no 5"), ("since\nwalls\n;\n", "no mark"),
            ("end;;", "no 4"),
            ("level drift walls goal x" + "9" * 5000 + ";", "no 23"), ("led " + "9" * 5000 + ";", "no 4"))

    def test_by_the_grammar(self):
        rnd = seeded(551)
        kinds = {}
        for _ in range(900):
            line = rnd.choice(LINES)
            kind = rnd.random()
            k = rnd.randint(0, len(line))
            if kind < 0.3:
                line = line[:k] + rnd.choice(["", ";", " ", "x", "7", "(", ")", "{", "}", "-", "/", "<=", "<", "\n",
                    "\t", "A", "room", " 0 "]) + line[k:]
            elif kind < 0.6:
                line = line[:k] + line[k + rnd.randint(1, 4):]
            elif kind < 0.7:
                line = line + " " + rnd.choice(LINES)
            desk = travelling(1)
            before = (desk.sheet(), desk.trip(), desk.acts(), desk.marks(), desk.work())
            answer, wrong = Console(desk).answer(line), grammar.first_wrong("LINE", line)
            if wrong is not None:
                self.assertEqual(answer, f"no {wrong}", line)
                self.assertEqual((desk.sheet(), desk.trip(), desk.acts(), desk.marks(), desk.work()), before)
            else:
                self.assertFalse(answer.split(" ")[-1].isdigit() and answer.startswith("no "), line)
            kinds[wrong is None] = True
        self.assertEqual(len(kinds), 2)

    def test_answers_are_the_desk_s(self):
        rnd = seeded(552)
        for _ in range(15):
            desk = desk_with()
            for _ in range(rnd.randint(0, 10)):
                act = some_act(rnd, desk.sheet(), desk.trip())
                if desk.act_word(act) is None:
                    desk.do(act)
            for line in LINES:
                word = line.split(" ")[0].strip(";")
                if word not in ("corners", "price", "inside", "level", "kept", "led", "wishes", "where", "parts"):
                    continue
                self.assertEqual(Console(desk.twin()).answer(line), answer_of(desk, line), line)
            for line in rnd.sample(LINES, 20):
                twin = desk.twin()
                answer = Console(twin).answer(line)
                if answer.startswith("no"):
                    self.assertEqual((twin.sheet(), twin.trip(), twin.acts()), (desk.sheet(), desk.trip(), desk.acts()))
                self.assertNotIn("\n", answer)

    def test_long_lines(self):
        desk = Desk()
        line = "room a 1 {" + "1 <= 2; " * 7000 + "}"
        self.asked(desk, (line, "done"), ("sheet {" + " " * 50000 + "}", "done"),
            ("undo ;" + " " * 50000 + "7", "no 50006"))
        self.assertEqual(len(PARTS), 19)
        self.assertRaises(BadAsk, desk.corners, "a")
        self.assertEqual(rough(0, 1)[0], 1)
