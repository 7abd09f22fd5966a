"""The refusals; each has the fields that it was handed."""


class AgeError(ValueError):
    """What stands over all refusals that are ValueErrors."""


class BadWorld(AgeError):
    """No world: worldfault's path and word."""

    def __init__(self, path, word):
        self.path = path
        self.word = word


class BadPaper(AgeError):
    """No paper without fault: paperfault's number and word."""

    def __init__(self, number, word):
        self.number = number
        self.word = word


class BadWish(AgeError):
    """No wish: wishfault's item and word."""

    def __init__(self, item, word):
        self.item = item
        self.word = word


class BadNames(AgeError):
    """No tuple of as many unlike names as there are kinds."""


class Unlike(AgeError):
    """Two worlds whose rounds or kinds must be alike and aren't."""


class Clash(AgeError):
    """A kind that both of two worlds have."""

    def __init__(self, kind):
        self.kind = kind


class Full(AgeError):
    """A world that would be beyond a bound."""


class NotNarrow(AgeError):
    """A world that isn't narrow."""


class TooMany(AgeError):
    """More rows than the bound lets."""

    def __init__(self, bound):
        self.bound = bound


class Long(AgeError):
    """A deed more than a hall lets stand."""


class Busy(AgeError):
    """A deed at a hall that is in the midst of telling."""


class NothingBack(AgeError):
    """No deed stands that could be taken back."""


class NoDeed(AgeError):
    """Something that is no deed; its number, or None for the whole."""

    def __init__(self, number):
        self.number = number


class NoText(AgeError):
    """No world's text: the line at which that shows, or None."""

    def __init__(self, line):
        self.line = line


class NoNumber(AgeError):
    """A number that isn't let where it stands."""


class NoKind(LookupError):
    """None of the kinds."""

    def __init__(self, kind):
        self.kind = kind


class NoSource(LookupError):
    """No source has that number."""

    def __init__(self, number):
        self.number = number


class NoWay(LookupError):
    """No way has that number."""

    def __init__(self, number):
        self.number = number


class NoPart(LookupError):
    """No part of the way has that number."""

    def __init__(self, part):
        self.part = part


class NoBringing(LookupError):
    """That source doesn't bring at that moment."""

    def __init__(self, source, moment):
        self.source = source
        self.moment = moment
