"""A console: lines that are read for a desk, and what is answered."""

from everygust.errors import BadAct, BadAsk, BadText, NothingDone, TooGreat, UnknownName
from everygust.reading import Reader, at_part, read_one_point, read_one_sheet, read_part, read_row
from everygust.sheets import names, point_text, room_text
from everygust.writing import told_fraction

ACT_LINES = {
    "row": ("name", "row"),
    "drop": ("name", ";"),
    "start": ("name", "name", "name", "number", "name", ";"),
    "step": ("point", "point", ";"),
    "end": (";",),
}
OTHER_LINES = {
    "undo": (";",),
    "redo": (";",),
    "mark": ("name", ";"),
    "since": ("name", ";"),
    "corners": ("name", ";"),
    "inside": ("name", "name", ";"),
    "level": ("name", "name", "name", "number", ";"),
    "kept": ("name", "name", "number", ";"),
    "led": (";",),
    "wishes": (";",),
    "answer": ("point", ";"),
    "price": ("name", ";"),
    "where": (";",),
    "parts": (";",),
}


def _told_point(point):
    return point_text(point)[:-1]


def _told_room(room):
    return room_text(room)[:-1].replace("\n", " ")


def _told_whether(is_so):
    return "yes" if is_so else "no"


def _undo(desk, told):
    desk.undo()
    return "done"


def _redo(desk, told):
    desk.redo()
    return "done"


def _mark(desk, told):
    desk.mark(told[0])
    return "done"


def _since(desk, told):
    return str(desk.since(told[0]))


def _corners(desk, told):
    return " ".join([_told_point(point) for point in desk.corners(told[0])])


def _inside(desk, told):
    return _told_whether(desk.inside(told[0], told[1]))


def _level(desk, told):
    plant, walls, goal, many = told
    return _told_room(desk.level(plant, walls, goal, many))


def _kept(desk, told):
    plant, walls, most = told
    word, number = desk.kept(plant, walls, most)
    return f"{word} {number}"


def _led(desk, told):
    return _told_whether(desk.is_led())


def _wishes(desk, told):
    return _told_room(desk.wishes())


def _answer(desk, told):
    gust = desk.answer(told[0])
    return "none" if gust is None else _told_point(gust)


def _price(desk, told):
    found = desk.price(told[0])
    return "none" if found is None else told_fraction(found)


def _where(desk, told):
    trip = desk.trip()
    return "no trip" if trip is None else _told_point(trip[5])


def _parts(desk, told):
    return " ".join(names(desk.sheet()))


ANSWERS = {
    "undo": _undo,
    "redo": _redo,
    "mark": _mark,
    "since": _since,
    "corners": _corners,
    "inside": _inside,
    "level": _level,
    "kept": _kept,
    "led": _led,
    "wishes": _wishes,
    "answer": _answer,
    "price": _price,
    "where": _where,
    "parts": _parts,
}


def _read_members(reader, form):
    found = []
    for kind in form:
        if kind == "name":
            found.append(reader.name())
        elif kind == "number":
            found.append(reader.numeral())
        elif kind == "point":
            found.append(read_one_point(reader))
        elif kind == "row":
            found.append(read_row(reader))
        else:
            reader.take(kind)
    return tuple(found)


def _read_line(reader):
    # The pair (whether it is an act, the act or the tuple of the line's word and its members).
    if reader.next_is("sheet"):
        return (True, ("sheet", read_one_sheet(reader)))
    if at_part(reader):
        return (True, ("put", read_part(reader)))
    for word in ACT_LINES:
        if reader.next_is(word):
            reader.take(word)
            return (True, (word,) + _read_members(reader, ACT_LINES[word]))
    for word in OTHER_LINES:
        if reader.next_is(word):
            reader.take(word)
            return (False, (word,) + _read_members(reader, OTHER_LINES[word]))
    raise BadText(reader.place())


class Console:
    """Reads lines for a desk."""

    def __init__(self, desk):
        self.desk = desk

    def answer(self, line):
        """Does and asks what a line tells; the answer."""
        try:
            reader = Reader(line)
            is_act, told = _read_line(reader)
            reader.end()
        except BadText as why:
            return f"no {why.place}"
        return self._act(told) if is_act else self._ask(told)

    def _act(self, act):
        try:
            self.desk.do(act)
        except BadAct as why:
            return f"no {why.word}"
        return "done"

    def _ask(self, told):
        action = ANSWERS[told[0]]
        try:
            return action(self.desk, told[1:])
        except BadAsk as why:
            return f"no {why.word}"
        except TooGreat:
            return "no great"
        except NothingDone:
            return "no nothing"
        except UnknownName:
            return "no mark"
