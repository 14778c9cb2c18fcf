"""Sheets: their texts, read and written, and their parts, looked up and exchanged by name."""

from everygust.checks import check_point, check_room, check_sheet, is_name
from everygust.errors import UnknownName
from everygust.reading import Reader, read_one_point, read_one_room, read_one_sheet
from everygust.writing import glued, told_point, told_room, told_sheet


def sheet_text(sheet):
    """The written text of a sheet."""
    return glued(told_sheet(sheet))


def room_text(room):
    """The written text of a room."""
    return glued(told_room(room))


def point_text(point):
    """The written text of a point."""
    return glued(told_point(point))


def read_sheet(text):
    """The sheet that a text tells."""
    reader = Reader(text)
    found = read_one_sheet(reader)
    reader.end()
    check_sheet(found)
    return found


def read_room(text):
    """The room that a text tells."""
    reader = Reader(text)
    found = read_one_room(reader)
    reader.end()
    check_room(found)
    return found


def read_point(text):
    """The point that a text tells."""
    reader = Reader(text)
    found = read_one_point(reader)
    reader.end()
    check_point(len(found), found)
    return found


def names(sheet):
    """The names of a sheet's parts, in order."""
    return [part[1] for part in sheet]


def _place_of(sheet, name):
    # The number of the part with a name; None if there is none, as there is of what is no name.
    if not is_name(name):
        return None
    for k, part in enumerate(sheet):
        if part[1] == name:
            return k
    return None


def part_of(sheet, name):
    """The part with a name."""
    place = _place_of(sheet, name)
    if place is None:
        raise UnknownName(name)
    return sheet[place]


def with_part(sheet, part):
    """The sheet with a part in the place of the one with its name, or else behind all others."""
    place = None
    if type(part) is tuple and len(part) == 3:
        place = _place_of(sheet, part[1])
    if place is None:
        place = len(sheet)
    found = sheet[:place] + (part,) + sheet[place + 1:]
    check_sheet(found)
    return found


def without_part(sheet, name):
    """The sheet without the part with a name."""
    place = _place_of(sheet, name)
    if place is None:
        raise UnknownName(name)
    return sheet[:place] + sheet[place + 1:]
