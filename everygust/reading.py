"""Reading texts: each text goes on, at each place, in one way that its next lexeme settles."""

from math import gcd

from everygust.checks import is_name
from everygust.errors import BadText
from everygust.lexemes import scanned


class Reader:
    """The lexemes of a text, read one after another; what does not fit is the first wrong place."""

    def __init__(self, text):
        found, stop = scanned(text)
        self.found = found
        # Behind the last lexeme comes what begins none, or the end: wrong there, if more is asked for.
        self.stop = len(text) if stop is None else stop
        self.is_whole = stop is None
        self.at = 0

    def place(self):
        """The place of the next lexeme, or of what comes in its stead."""
        if self.at < len(self.found):
            return self.found[self.at][2]
        return self.stop

    def kind(self):
        """The sort of the next lexeme, the empty string if there is none."""
        if self.at < len(self.found):
            return self.found[self.at][0]
        return ""

    def next_is(self, lexeme):
        """Whether the next lexeme is a told word or sign."""
        return self.at < len(self.found) and self.found[self.at][1] == lexeme

    def take(self, lexeme):
        """Goes on behind a told word or sign."""
        if not self.next_is(lexeme):
            raise BadText(self.place())
        self.at += 1

    def take_all(self, told):
        """Goes on behind several words and signs."""
        for lexeme in told:
            self.take(lexeme)

    def name(self):
        """A name."""
        if self.kind() != "word" or not is_name(self.found[self.at][1]):
            raise BadText(self.place())
        self.at += 1
        return self.found[self.at - 1][1]

    def numeral(self):
        """A numeral."""
        if self.kind() != "numeral":
            raise BadText(self.place())
        self.at += 1
        return int(self.found[self.at - 1][1])

    def end(self):
        """Nothing more may come."""
        if self.at < len(self.found) or not self.is_whole:
            raise BadText(self.place())

    def at_whole(self):
        """Whether an integer begins here."""
        return self.kind() == "numeral" or self.next_is("-")

    def whole(self):
        """An integer."""
        if self.next_is("-"):
            self.at += 1
            return -self.numeral()
        return self.numeral()

    def wholes(self):
        """As many integers as there are."""
        found = []
        while self.at_whole():
            found.append(self.whole())
        return tuple(found)

    def fraction(self):
        """A fraction, or a pair with 0 behind, which is none."""
        p = self.whole()
        if not self.next_is("/"):
            return (p, 1)
        self.at += 1
        q = self.numeral()
        shared = gcd(p, q) if q else 1
        return (p // shared, q // shared)


def read_row(reader):
    """A row."""
    members = reader.wholes()
    reader.take("<=")
    bound = reader.whole()
    reader.take(";")
    return (members, bound)


def read_one_room(reader):
    """A room."""
    n = reader.numeral()
    reader.take("{")
    rows = []
    while not reader.next_is("}"):
        rows.append(read_row(reader))
    reader.take("}")
    return (n, tuple(rows))


def read_one_point(reader):
    """A point."""
    reader.take("(")
    found = []
    while reader.at_whole():
        found.append(reader.fraction())
    reader.take(")")
    return tuple(found)


def read_matrix(reader):
    """A matrix."""
    reader.take("(")
    found = []
    while reader.next_is("("):
        found.append(read_one_point(reader))
    reader.take(")")
    return tuple(found)


def _matrix_line(reader):
    found = read_matrix(reader)
    reader.take(";")
    return found


def _point_line(reader):
    found = read_one_point(reader)
    reader.take(";")
    return found


def _in_brackets(reader):
    reader.take("(")
    found = reader.wholes()
    reader.take(")")
    return found


def _last_whole(reader):
    found = reader.whole()
    reader.take(";")
    return found


def _plant(reader):
    found = []
    for told in (("{", "state"), ("helm",), ("gust",)):
        reader.take_all(told)
        found.append(_matrix_line(reader))
    reader.take("still")
    found.append(_point_line(reader))
    for told in ("wishes", "gusts"):
        reader.take(told)
        found.append(read_one_room(reader))
    reader.take("}")
    return tuple(found)


def _sight(reader):
    reader.take_all(("{", "see"))
    lines = _matrix_line(reader)
    reader.take("slips")
    slips = read_one_room(reader)
    reader.take("}")
    return (lines, slips)


def _cost(reader):
    reader.take("{")
    steps, ends = [], []
    while reader.next_is("step"):
        reader.take("step")
        p = _in_brackets(reader)
        q = _in_brackets(reader)
        steps.append((p, q, _last_whole(reader)))
    while reader.next_is("end"):
        reader.take("end")
        p = _in_brackets(reader)
        ends.append((p, _last_whole(reader)))
    reader.take("}")
    return (tuple(steps), tuple(ends))


def _lot(reader):
    reader.take("{")
    found = []
    while not reader.next_is("}"):
        found.append(read_one_room(reader))
    reader.take("}")
    return tuple(found)


def _table(reader):
    reader.take("{")
    found = []
    while reader.next_is("piece"):
        reader.take("piece")
        room = read_one_room(reader)
        lines = _matrix_line(reader)
        found.append((room, lines, _point_line(reader)))
    reader.take("}")
    return tuple(found)


def _room(reader):
    return read_one_room(reader)


VALUE_READERS = {
    "room": _room,
    "point": _point_line,
    "plant": _plant,
    "sight": _sight,
    "cost": _cost,
    "lot": _lot,
    "table": _table,
}


def at_part(reader):
    """Whether a part begins here."""
    return reader.kind() == "word" and reader.found[reader.at][1] in VALUE_READERS


def read_part(reader):
    """A part of a sheet."""
    if not at_part(reader):
        raise BadText(reader.place())
    sort = reader.found[reader.at][1]
    reader.take(sort)
    name = reader.name()
    action = VALUE_READERS[sort]
    return (sort, name, action(reader))


def read_one_sheet(reader):
    """A sheet."""
    reader.take_all(("sheet", "{"))
    found = []
    while at_part(reader):
        found.append(read_part(reader))
    reader.take("}")
    return tuple(found)
