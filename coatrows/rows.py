"""Rows of deeds, and what they leave at a point."""

from coatrows.checks import LETTERS, check_first, first_wrong_name, is_index, is_name
from coatrows.errors import InvalidDeed, InvalidNumber, InvalidPatch, TooMany, UnknownRegion

MOST_DEEDS = 30

# How many things each kind of deeds is told with, the kind itself included.
WIDTHS = {"put": 3, "fill": 3, "wipe": 2, "turn": 3}


def is_deed(thing):
    """Tell whether something, whatever it is, is a deed."""
    if not isinstance(thing, tuple) or len(thing) not in (2, 3):
        return False
    if not all([isinstance(word, str) for word in thing]):
        return False
    return WIDTHS.get(thing[0]) == len(thing) and all([is_name(word) for word in thing[1:]])


def check_deeds(deeds):
    """Refuse what is not a list of so many deeds."""
    if not isinstance(deeds, list) or len(deeds) > MOST_DEEDS:
        raise InvalidDeed(None)
    for at, deed in enumerate(deeds):
        if not is_deed(deed):
            raise InvalidDeed(at)


def regions_in(deed):
    """Return the regions of a deed."""
    return [] if deed[0] == "turn" else [deed[-1]]


def colours_in(deed):
    """Return the colours of a deed."""
    if deed[0] == "wipe":
        return []
    return [deed[1], deed[2]] if deed[0] == "turn" else [deed[1]]


def check_known(row, places):
    """Refuse a row with a deed of a region that is none of those with places."""
    for deed in row.deeds():
        for region in regions_in(deed):
            if region not in places:
                raise UnknownRegion(region)


def check_kinds(row, kinds):
    """Refuse a row with a deed of another kind."""
    for at, deed in enumerate(row.deeds()):
        if deed[0] not in kinds:
            raise InvalidDeed(at)


def check_painting(row, kinds, places):
    """Refuse a row with a deed of another kind, then one of a region that has no place."""
    check_kinds(row, kinds)
    check_known(row, places)


class Row:
    """A row of deeds, which are done in order."""

    def __init__(self, deeds):
        check_deeds(deeds)
        self._deeds = list(deeds)

    def deeds(self):
        """Return the deeds."""
        return list(self._deeds)

    def regions(self):
        """Return the names of regions that occur in the deeds, rising."""
        return sorted({region for deed in self._deeds for region in regions_in(deed)})

    def colours(self):
        """Return the names of colours that occur in the deeds, rising."""
        return sorted({colour for deed in self._deeds for colour in colours_in(deed)})

    def without(self, index):
        """Return the row without one deed."""
        if not is_index(index, len(self._deeds)):
            raise InvalidNumber(index)
        return Row(self._deeds[:index] + self._deeds[index + 1:])

    def __getitem__(self, at):
        if not is_index(at, len(self._deeds)):
            raise InvalidNumber(at)
        return self._deeds[at]

    def __iter__(self):
        raise TypeError("a row is not looped over: loop over its deeds()")

    def __len__(self):
        return len(self._deeds)

    def __add__(self, other):
        if not isinstance(other, Row):
            raise InvalidDeed(None)
        deeds = self._deeds + other._deeds
        if len(deeds) > MOST_DEEDS:
            raise TooMany(MOST_DEEDS)
        return Row(deeds)

    def __eq__(self, other):
        return isinstance(other, Row) and self._deeds == other._deeds


def shown_behind(deed, patch, colour):
    """Return what the points of a patch that show a colour, or blank, show behind a deed."""
    kind = deed[0]
    if kind == "turn":
        return deed[2] if colour == deed[1] else colour
    if deed[-1] not in patch or (kind == "fill" and colour is not None):
        return colour
    return None if kind == "wipe" else deed[1]


def shown(row, patch, first):
    """Return what the points of a patch with a first colour show behind a row."""
    if not isinstance(patch, list):
        raise InvalidPatch(None)
    wrong = first_wrong_name(patch)
    if wrong is not None:
        raise InvalidPatch(wrong)
    check_first(first)
    colour = first
    for deed in row.deeds():
        colour = shown_behind(deed, patch, colour)
    return colour


def turned(colour, deeds):
    """Return what the turns among deeds make of a colour."""
    for deed in deeds:
        if deed[0] == "turn":
            colour = shown_behind(deed, [], colour)
    return colour


def in_order(things):
    """Return all that points can show, each once: None for blank first, then the colours, rising."""
    colours = sorted({thing for thing in things if thing is not None})
    return [None] + colours if None in things else colours


def new_colour(used):
    """Return the first name of a, b, .., z, aa, ab and so on that is none of those used."""
    names = list(LETTERS)
    while True:
        for name in names:
            if name not in used:
                return name
        names = [name + letter for name in names for letter in LETTERS]


def first_colours(one, other):
    """Return the first colours that decide whether two rows leave the same, None for blank."""
    used = sorted(set(one.colours() + other.colours()))
    return [None] + used + [new_colour(used)]
