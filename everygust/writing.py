"""Writing texts: first what stands in them, one lexeme after another, then how it is glued."""


def _is_glued(one, other):
    return one == "(" or other == ")" or other == ";"


def glued(told):
    """The written text of a list of strings; an integer or a fraction is one string, without blanks in it."""
    found = []
    for one, other in zip(told, told[1:]):
        found.append(one)
        if one in ("{", "}", ";"):
            found.append("\n")
        elif not _is_glued(one, other):
            found.append(" ")
    return "".join(found) + told[-1] + "\n"


def told_fraction(t):
    """What is written of a fraction."""
    return f"{t[0]}" if t[1] == 1 else f"{t[0]}/{t[1]}"


def told_wholes(numbers):
    """What is written of integers."""
    return [str(k) for k in numbers]


def told_point(point):
    """What is written of a point."""
    return ["("] + [told_fraction(t) for t in point] + [")"]


def told_matrix(matrix):
    """What is written of a matrix."""
    found = ["("]
    for line in matrix:
        found.extend(told_point(line))
    found.append(")")
    return found


def told_room(room):
    """What is written of a room."""
    found = [str(room[0]), "{"]
    for members, bound in room[1]:
        found.extend(told_wholes(members))
        found.extend(["<=", str(bound), ";"])
    found.append("}")
    return found


def _point(value):
    return told_point(value) + [";"]


def _room(value):
    return told_room(value)


def _plant(value):
    found = ["{"]
    for word, matrix in zip(("state", "helm", "gust"), value):
        found.append(word)
        found.extend(told_matrix(matrix))
        found.append(";")
    found.append("still")
    found.extend(_point(value[3]))
    for word, room in zip(("wishes", "gusts"), value[4:]):
        found.append(word)
        found.extend(told_room(room))
    found.append("}")
    return found


def _sight(value):
    lines, slips = value
    return ["{", "see"] + told_matrix(lines) + [";", "slips"] + told_room(slips) + ["}"]


def _bracketed(numbers):
    return ["("] + told_wholes(numbers) + [")"]


def _cost(value):
    found = ["{"]
    for p, q, r in value[0]:
        found.extend(["step"] + _bracketed(p) + _bracketed(q) + [str(r), ";"])
    for p, r in value[1]:
        found.extend(["end"] + _bracketed(p) + [str(r), ";"])
    found.append("}")
    return found


def _lot(value):
    found = ["{"]
    for room in value:
        found.extend(told_room(room))
    found.append("}")
    return found


def _table(value):
    found = ["{"]
    for room, lines, shift in value:
        found.append("piece")
        found.extend(told_room(room))
        found.extend(told_matrix(lines))
        found.append(";")
        found.extend(_point(shift))
    found.append("}")
    return found


VALUE_WRITERS = {
    "room": _room,
    "point": _point,
    "plant": _plant,
    "sight": _sight,
    "cost": _cost,
    "lot": _lot,
    "table": _table,
}


def told_part(part):
    """What is written of a part of a sheet."""
    sort, name, value = part
    action = VALUE_WRITERS[sort]
    return [sort, name] + action(value)


def told_sheet(sheet):
    """What is written of a sheet."""
    found = ["sheet", "{"]
    for part in sheet:
        found.extend(told_part(part))
    found.append("}")
    return found
