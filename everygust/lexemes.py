"""Lexemes: the words, numerals and signs that texts consist of."""

from everygust.errors import BadText

LETTERS = "abcdefghijklmnopqrstuvwxyz"
DIGITS = "0123456789"
WORD_SIGNS = "abcdefghijklmnopqrstuvwxyz0123456789"
SIGNS = "{}();/-"
LONGEST_WORD = 12


def _run_end(text, place, signs):
    # The place behind the run of such characters that begins at a place.
    while place < len(text) and text[place] in signs:
        place += 1
    return place


def _lexeme_at(text, place):
    # The lexeme that begins at a place, or None.
    first = text[place]
    if first in LETTERS:
        end = _run_end(text, place, WORD_SIGNS)
        return ("word", text[place:end], place) if end - place <= LONGEST_WORD else None
    if first == "0":
        return ("numeral", first, place)
    if first in DIGITS:
        return ("numeral", text[place:_run_end(text, place, DIGITS)], place)
    if first in SIGNS:
        return ("sign", first, place)
    if text[place:place + 2] == "<=":
        return ("sign", "<=", place)
    return None


def scanned(text):
    """The pair (lexemes, stop): the lexemes ahead of the first character that begins none, and its place or None."""
    found = []
    place = 0
    while place < len(text):
        if text[place] in " \n":
            place += 1
            continue
        lexeme = _lexeme_at(text, place)
        if lexeme is None:
            return (found, place)
        found.append(lexeme)
        place += len(lexeme[1])
    return (found, None)


def lexemes(text):
    """The list of the lexemes of a text, each a triple (sort, lexeme, place)."""
    found, stop = scanned(text)
    if stop is not None:
        raise BadText(stop)
    return found
