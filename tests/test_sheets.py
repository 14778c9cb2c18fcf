import unittest

from everygust.checks import check_sheet
from everygust.errors import BadShape, BadText, UnknownName
from everygust.sheets import (
    names, part_of, point_text, read_point, read_room, read_sheet, room_text, sheet_text, with_part, without_part)
from tests.grammar import first_wrong
from tests.helpers import ODD, fr, pt, random_room, seeded, unchanged
from tests.test_checks import SHEET

WRITTEN = """sheet {
room a 2 {
1 0 <= 1;
-2 4 <= 6;
}
point b1 (1/2 3);
plant c {
state ((1 0) (1/2 -3/4));
helm ((1) (0));
gust ((1 2) (0 5));
still (0 1/3);
wishes 1 {
1 <= 2;
-1 <= 2;
}
gusts 2 {
1 0 <= 1;
-2 4 <= 6;
}
}
sight d {
see ((1 0) (1/2 1) (0 0));
slips 3 {
1 1 1 <= 4;
}
}
cost e {
step (1 2) (3) 4;
step (0 0) (-1) 0;
end (1 1) 0;
end (5 6) 7;
}
lot f {
2 {
1 0 <= 1;
-2 4 <= 6;
}
2 {
}
2 {
1 0 <= 1;
-2 4 <= 6;
}
}
table g {
piece 2 {
1 0 <= 1;
-2 4 <= 6;
}
((1 2));
(3);
piece 2 {
}
((0 1/2));
(1/7);
}
room h 0 {
}
point i ();
lot j {
}
table k {
}
}
"""


def random_sheet(told):
    def fraction():
        return fr(told.randint(-9, 9) * 10 ** told.choice([0, 0, 30]), told.randint(1, 5))

    def matrix(r, c):
        return tuple(tuple(fraction() for _ in range(c)) for _ in range(r))

    def room(n):
        return random_room(told, n, told.randint(0, 3), 9, "any")

    def value(sort):
        n, m, k = told.randint(1, 3), told.randint(0, 3), told.randint(0, 2)
        if sort == "room":
            return room(told.randint(0, 6))
        if sort == "point":
            return tuple(fraction() for _ in range(told.randint(0, 6)))
        if sort == "plant":
            return (matrix(n, n), matrix(n, m), matrix(n, k), matrix(1, n)[0], room(m), room(k))
        if sort == "sight":
            return (matrix(m, n), room(m))
        if sort == "cost":
            def wholes(c):
                return tuple(told.randint(-9, 9) for _ in range(c))
            steps = tuple((wholes(n), wholes(m), told.randint(-9, 9)) for _ in range(told.randint(1, 3)))
            return (steps, tuple((wholes(n), told.randint(-9, 9)) for _ in range(told.randint(1, 3))))
        if sort == "lot":
            return tuple(room(n) for _ in range(told.randint(0, 3)))
        return tuple((room(n), matrix(m, n), matrix(1, m)[0]) for _ in range(told.randint(0, 3)))

    sorts = ["room", "point", "plant", "sight", "cost", "lot", "table"]
    chosen = [told.choice(sorts) for _ in range(told.randint(0, 6))]
    return tuple((sort, f"n{k}", value(sort)) for k, sort in enumerate(chosen))


class TestWritten(unittest.TestCase):
    def test_to_the_character(self):
        self.assertEqual(unchanged(self, sheet_text, SHEET), WRITTEN)
        self.assertEqual(sheet_text(()), "sheet {\n}\n")
        self.assertEqual(room_text((2, (((1, 0), 1), ((-2, 4), 6)))), "2 {\n1 0 <= 1;\n-2 4 <= 6;\n}\n")
        self.assertEqual(room_text((0, (((), -5),))), "0 {\n<= -5;\n}\n")
        self.assertEqual(room_text((3, ())), "3 {\n}\n")
        self.assertEqual(point_text(()), "()\n")
        self.assertEqual(point_text(((1, 2), (-3, 1), (-4, 5), (0, 1))), "(1/2 -3 -4/5 0)\n")

    def test_read_back(self):
        self.assertEqual(unchanged(self, read_sheet, WRITTEN), SHEET)
        told = seeded(21)
        for _ in range(150):
            sheet = random_sheet(told)
            check_sheet(sheet)
            self.assertEqual(read_sheet(sheet_text(sheet)), sheet)
        for _ in range(60):
            room = random_room(told, told.randint(0, 6), told.randint(0, 5), 10 ** told.choice([0, 39]), "any")
            self.assertEqual(read_room(room_text(room)), room)
            point = tuple(fr(told.randint(-10 ** 39, 10 ** 39), told.randint(1, 10 ** 39)) for _ in range(5))
            self.assertEqual(read_point(point_text(point)), point)

    def test_unlike_sheets_have_unlike_texts(self):
        told = seeded(22)
        texts = {}
        for _ in range(200):
            sheet = random_sheet(told)
            text = sheet_text(sheet)
            self.assertEqual(texts.setdefault(text, sheet), sheet)


class TestRead(unittest.TestCase):
    READERS = {"SHEET": read_sheet, "ROOM": read_room, "POINT": read_point}

    def place(self, kind, text):
        try:
            self.READERS[kind](text)
        except BadText as error:
            return error.place
        except BadShape:
            return None
        return None

    def shape(self, kind, text):
        with self.assertRaises(BadShape) as told:
            self.READERS[kind](text)
        return told.exception.path

    def test_the_example(self):
        self.assertEqual(self.place("ROOM", "2 { 1 0 < 1 ; }"), 8)
        self.assertEqual(self.place("ROOM", "2 { 1 0 <= 1 }"), 13)
        self.assertEqual(self.shape("POINT", "( 1 2/0 )"), (1, 1))

    def test_glued_and_apart(self):
        for text in ("2{1 0<=1;-2 4<=6;}", " 2\n{ 1\n0 <= 1 ; - 2 4 <= 6 ; } \n", "2 {\n1 0 <= 1;\n-2 4 <= 6;\n}\n"):
            self.assertEqual(read_room(text), (2, (((1, 0), 1), ((-2, 4), 6))))
        self.assertEqual(read_point("(1/2-3 4)"), ((1, 2), (-3, 1), (4, 1)))
        self.assertEqual(read_point("( 1 / 2 - 3 )"), ((1, 2), (-3, 1)))
        self.assertEqual(read_point("(00 7)"), ((0, 1), (0, 1), (7, 1)))
        self.assertEqual(read_point("(-0 - 0/5 4/6 -4/6)"), ((0, 1), (0, 1), (2, 3), (-2, 3)))
        self.assertEqual(read_sheet("sheet{lot a1{0{}0{}}point b();room b0 0{}}"),
                         (("lot", "a1", ((0, ()), (0, ()))), ("point", "b", ()), ("room", "b0", (0, ()))))
        # The word b0 takes the 0 in, so that the room has no numeral: the text is wrong there.
        self.assertEqual(self.place("SHEET", "sheet{room b0{}}"), 13)

    def test_by_hand(self):
        for kind, text, place in [
                ("SHEET", "", 0), ("SHEET", "  ", 2), ("SHEET", "sheet", 5), ("SHEET", "sheet {", 7),
                ("SHEET", "sheet { }}", 9), ("SHEET", "sheet { } $", 10), ("SHEET", "$", 0), ("SHEET", "room", 0),
                ("SHEET", "sheet { room room 1 { } }", 13), ("SHEET", "sheet { rooms a", 8),
                ("SHEET", "sheet { room abcdefghijklm 1 { } }", 13), ("SHEET", "sheet { point a ( 1 ) }", 22),
                ("SHEET", "sheet { point a ( 1/-2 ) ; }", 20), ("SHEET", "sheet { cost a { end ( ) 1 ; step", 29),
                ("SHEET", "sheet { plant a { state ( ) ; gust", 30), ("SHEET", "sheet { 1", 8),
                ("ROOM", "1 { 1 <= }", 9), ("ROOM", "- 1 { }", 0), ("ROOM", "1 { 1/2 <= 1; }", 5),
                ("ROOM", "1 { 1 <= 1/2; }", 10), ("ROOM", "1 { - - 1 <= 1; }", 6), ("ROOM", "12 { ; }", 5),
                ("POINT", "( 1 2", 5), ("POINT", "(1//2)", 3), ("POINT", "(1/2/3)", 4), ("POINT", "(a)", 1),
                ("POINT", "() ()", 3), ("POINT", "(-)", 2), ("POINT", "(1\t)", 2), ("POINT", "(1/0)", None)]:
            self.assertEqual(self.place(kind, text), place, text)
            self.assertEqual(first_wrong(kind, text), place, text)

    def test_changed_texts(self):
        told = seeded(33)
        lexemes = ["sheet", "room", "point", "plant", "sight", "cost", "lot", "table", "piece", "state", "helm", "gust",
                   "still", "wishes", "gusts", "see", "slips", "step", "end", "a", "b2", "0", "1", "25", "{", "}", "(",
                   ")", ";", "/", "-", "<=", "<", "$", "\t", "abcdefghijklm", " ", ""]
        for _ in range(1500):
            kind = told.choice(["SHEET", "SHEET", "ROOM", "POINT"])
            if kind == "SHEET":
                text = sheet_text(random_sheet(told))
            elif kind == "ROOM":
                text = room_text(random_room(told, told.randint(0, 3), 3, 20, "any"))
            else:
                text = point_text(pt(*[told.randint(-20, 20) for _ in range(4)]))
            for _ in range(told.randint(0, 2)):
                at = told.randrange(len(text) + 1)
                to = min(len(text), at + told.choice([0, 0, 1, 2, 5]))
                text = text[:at] + told.choice(lexemes) + text[to:]
            if told.random() < 0.2:
                text = text[:told.randrange(len(text) + 1)]
            self.assertEqual(self.place(kind, text), first_wrong(kind, text), repr(text))

    def test_shape_behind_place(self):
        self.assertEqual(self.place("ROOM", "9 { 1 <= 1 ; } x"), 15)
        self.assertEqual(self.shape("ROOM", "9 { 1 <= 1 ; }"), (0,))
        self.assertEqual(self.shape("ROOM", "2 { 1 <= 1 ; }"), (1, 0, 0))
        self.assertEqual(self.shape("POINT", "(1 0/0 3)"), (1, 1))
        self.assertEqual(self.shape("POINT", "(4/0)"), (0, 1))
        self.assertEqual(read_point("(" + "1 " * 50 + ")"), ((1, 1),) * 50)
        for text, path in [
                ("sheet { room a 1 { } room a 1 { } }", (1, 1)), ("sheet { point a (1 1 1 1 1 1 1); }", (0, 2)),
                ("sheet { cost a { } }", (0, 2, 0)), ("sheet { cost a { step () () 1; } }", (0, 2, 1)),
                ("sheet { sight a { see ((1/0)); slips 1 { } } }", (0, 2, 0, 0, 0, 1)),
                ("sheet {" + " room a 1 { }" * 31 + " }", ())]:
            self.assertEqual(self.shape("SHEET", text), path)

    def test_long(self):
        rows = "1 <= 1;\n" * 7490
        found = read_room("1 {\n" + rows + "}\n")
        self.assertEqual(found, (1, (((1,), 1),) * 7490))
        self.assertEqual(self.place("ROOM", "1 {\n" + rows + "}\n" + "5"), len(rows) + 6)
        self.assertEqual(self.place("ROOM", "1 { 1 <= 1 " + "9" * 50000), 11)
        self.assertEqual(self.place("ROOM", "1 { 1 <= 1; ! " + "9" * 50000), 12)
        self.assertEqual(self.place("ROOM", "1 { 1 <= 1; } " + "9" * 50000), 14)
        self.assertEqual(self.place("POINT", "( 1 } " + "9" * 50000), 4)
        self.assertEqual(self.place("SHEET", "sheet { " + "9" * 59000 + " }"), 8)
        self.assertEqual(self.place("SHEET", "sheet { room a " + "(" * 59000), 15)
        self.assertEqual(self.place("POINT", "(" * 60000), 1)
        self.assertEqual(read_point("(" + "9" * 40 + "/" + "8" * 40 + ")")[0], fr(int("9" * 40), int("8" * 40)))


class TestParts(unittest.TestCase):
    def test_names(self):
        self.assertEqual(unchanged(self, names, SHEET), ["a", "b1", "c", "d", "e", "f", "g", "h", "i", "j", "k"])
        self.assertEqual(names(()), [])

    def test_part_of(self):
        for part in SHEET:
            self.assertEqual(part_of(SHEET, part[1]), part)
        for odd in ODD + ["z", "room", ["a"], ("a",)]:
            with self.assertRaises(UnknownName) as told:
                part_of(SHEET, odd)
            self.assertEqual(told.exception.name, odd)

    def test_without_part(self):
        for k, part in enumerate(SHEET):
            self.assertEqual(unchanged(self, without_part, SHEET, part[1]), SHEET[:k] + SHEET[k + 1:])
        for odd in ODD + ["z", "room"]:
            with self.assertRaises(UnknownName) as told:
                without_part(SHEET, odd)
            self.assertEqual(told.exception.name, odd)

    def test_with_part(self):
        new = ("point", "zz", pt(1, 2))
        self.assertEqual(unchanged(self, with_part, SHEET, new), SHEET + (new,))
        for k, part in enumerate(SHEET):
            told = ("point", part[1], pt(7))
            self.assertEqual(with_part(SHEET, told), SHEET[:k] + (told,) + SHEET[k + 1:])

    def refused(self, path, sheet, part):
        with self.assertRaises(BadShape) as told:
            with_part(sheet, part)
        self.assertEqual(told.exception.path, path)

    def test_with_part_refused(self):
        last = len(SHEET)
        for odd in ODD:
            path = (last,) if type(odd) is not tuple or len(odd) != 3 else (last, 0)
            self.refused(path, SHEET, odd)
        self.refused((1, 2), SHEET, ("room", "b1", None))
        self.refused((1, 0), SHEET, ("rooms", "b1", None))
        self.refused((last, 1), SHEET, ("room", "room", (0, ())))
        self.refused((last, 0), SHEET, (["room"], "zz", (0, ())))
        self.refused((last, 1), SHEET, ("room", ["a"], (0, ())))
        self.refused((last, 2, 0), SHEET, ("room", "zz", (7, ())))
        self.refused((0, 2, 1, 0, 0), SHEET, ("room", "a", (1, (((), 2),))))
        self.refused((last,), SHEET, ["point", "a", ()])
        full = tuple(("point", f"p{k}", ()) for k in range(30))
        self.refused((), full, ("point", "p30", ()))
        self.refused((), full, None)
        self.refused((), full, ("point", "1", ()))
        self.assertEqual(with_part(full, ("lot", "p7", ()))[7], ("lot", "p7", ()))
