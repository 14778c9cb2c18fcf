"""The texts of the document as a grammar, and their first wrong place by keeping all ways open at once."""

import re

RESERVED = set("""sheet room point plant sight cost lot table piece state helm gust still wishes gusts see slips step
end""".split())

# A star behind a name means any number of it.
GRAMMAR = {
    "SHEET": [["sheet", "{", "PART*", "}"]],
    "PART": [
        ["room", "NAME", "ROOM"], ["point", "NAME", "POINT", ";"],
        ["plant", "NAME", "{", "state", "MATRIX", ";", "helm", "MATRIX", ";", "gust", "MATRIX", ";", "still", "POINT",
         ";", "wishes", "ROOM", "gusts", "ROOM", "}"],
        ["sight", "NAME", "{", "see", "MATRIX", ";", "slips", "ROOM", "}"],
        ["cost", "NAME", "{", "STEP*", "END*", "}"], ["lot", "NAME", "{", "ROOM*", "}"],
        ["table", "NAME", "{", "PIECE*", "}"]],
    "ROOM": [["NUMERAL", "{", "ROW*", "}"]],
    "ROW": [["INT*", "<=", "INT", ";"]],
    "POINT": [["(", "FRACTION*", ")"]],
    "MATRIX": [["(", "POINT*", ")"]],
    "STEP": [["step", "(", "INT*", ")", "(", "INT*", ")", "INT", ";"]],
    "END": [["end", "(", "INT*", ")", "INT", ";"]],
    "PIECE": [["piece", "ROOM", "MATRIX", ";", "POINT", ";"]],
    "FRACTION": [["INT"], ["INT", "/", "NUMERAL"]],
    "INT": [["NUMERAL"], ["-", "NUMERAL"]],
}


def expanded(stacks):
    """All stacks of symbols that begin with a lexeme, or are empty."""
    found, todo = set(), list(stacks)
    seen = set(todo)
    while todo:
        stack = todo.pop()
        if not stack or stack[0] not in GRAMMAR and not stack[0].endswith("*"):
            found.add(stack)
            continue
        head, rest = stack[0], stack[1:]
        if head.endswith("*"):
            more = [rest, (head[:-1], head) + rest]
        else:
            more = [tuple(told) + rest for told in GRAMMAR[head]]
        for one in more:
            if one not in seen:
                seen.add(one)
                todo.append(one)
    return found


def fits(symbol, lexeme):
    if symbol == "NUMERAL":
        return lexeme[0].isdigit()
    if symbol == "NAME":
        return lexeme[0].isalpha() and len(lexeme) <= 12 and lexeme not in RESERVED
    return symbol == lexeme


PATTERN = re.compile(r"[a-z][a-z0-9]*|0|[1-9][0-9]*|<=|[{}();/-]")


def first_wrong(kind, text):
    """The first wrong place, or None."""
    stacks = expanded([(kind,)])
    place = 0
    while place < len(text):
        if text[place] in " \n":
            place += 1
            continue
        told = PATTERN.match(text, place)
        if told is None or told.group()[0].isalpha() and len(told.group()) > 12:
            return place
        lexeme = told.group()
        stacks = expanded([stack[1:] for stack in stacks if stack and fits(stack[0], lexeme)])
        if not stacks:
            return place
        place += len(lexeme)
    return None if () in stacks else len(text)
