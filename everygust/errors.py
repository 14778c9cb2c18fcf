"""The errors of this package, each told by its class and by what it keeps."""


class GustError(ValueError):
    """What all refusals of this package have in common, but for missing names."""


class BadShape(GustError):
    """A value has not the form that it should have."""

    def __init__(self, path):
        self.path = tuple(path)


class BadText(GustError):
    """A text has a wrong place."""

    def __init__(self, place):
        self.place = place


class TooGreat(GustError):
    """Something has more rows, corners or other parts than are looked through."""


class Bare(GustError):
    """A room has no point."""


class Unbounded(GustError):
    """A room has a way."""


class BadWish(GustError):
    """What should be a wish is none."""

    def __init__(self, number):
        self.number = number


class BadGust(GustError):
    """What should be a gust is none."""

    def __init__(self, number):
        self.number = number


class BadAct(GustError):
    """An act cannot be done."""

    def __init__(self, word):
        self.word = word


class BadAsk(GustError):
    """A question cannot be answered."""

    def __init__(self, word):
        self.word = word


class NothingDone(GustError):
    """There is nothing to take back, or to do again."""


class NameMissing(LookupError):
    """What is looked for by name is not there."""


class UnknownName(NameMissing):
    """Nothing has this name."""

    def __init__(self, name):
        self.name = name
