"""The errors of the package, each with the fields that tell what was wrong."""


class CoatError(ValueError):
    """What all errors of the package are."""


class InvalidRegion(CoatError):
    """Regions are not a list of so many different names."""

    def __init__(self, index):
        self.index = index


class InvalidFact(CoatError):
    """Facts are not a list of so many facts about the regions."""

    def __init__(self, index):
        self.index = index


class InvalidPatch(CoatError):
    """A patch is not a list of different regions as it should be."""

    def __init__(self, index):
        self.index = index


class InvalidClaim(CoatError):
    """Claims are not a list of claims about the regions."""

    def __init__(self, index):
        self.index = index


class InvalidDeed(CoatError):
    """Deeds are not a list of so many deeds of the kinds that are asked for."""

    def __init__(self, index):
        self.index = index


class InvalidColour(CoatError):
    """Something is not a colour where one is asked for."""

    def __init__(self, colour):
        self.colour = colour


class InvalidNumber(CoatError):
    """Something is not the index of a deed."""

    def __init__(self, number):
        self.number = number


class UnknownRegion(CoatError):
    """A region is none of the regions of the facts."""

    def __init__(self, region):
        self.region = region


class InvalidMap(CoatError):
    """A map is not a list of so many patches."""

    def __init__(self, index):
        self.index = index


class InvalidText(CoatError):
    """A text is not the text of a row."""

    def __init__(self, column):
        self.column = column


class Contradiction(CoatError):
    """Facts do not hold together, as the two ways show."""

    def __init__(self, there, back):
        self.there = list(there)
        self.back = list(back)


class TooMany(CoatError):
    """There are more things than the limit allows."""

    def __init__(self, limit):
        self.limit = limit


class NothingToUndo(CoatError):
    """Nothing is left that could be undone."""
