"""What names, indices and patches are, and which of them are refused."""

from coatrows.errors import InvalidColour, InvalidPatch, InvalidRegion

LETTERS = "abcdefghijklmnopqrstuvwxyz"
MOST_LETTERS = 12
MOST_REGIONS = 24


def is_name(thing):
    """Tell whether something, whatever it is, is a name."""
    if not isinstance(thing, str) or not 1 <= len(thing) <= MOST_LETTERS:
        return False
    return all([letter in LETTERS for letter in thing])


def is_index(thing, many):
    """Tell whether something, whatever it is, is the index of one of many things."""
    if not isinstance(thing, int) or isinstance(thing, bool):
        return False
    return 0 <= thing < many


def first_wrong_name(things):
    """Return the index of the first thing that is not a name or has occurred."""
    seen = set()
    for at, thing in enumerate(things):
        if not is_name(thing) or thing in seen:
            return at
        seen.add(thing)
    return None


def check_regions(regions):
    """Refuse what is not a list of so many different names of regions."""
    if not isinstance(regions, list) or not 1 <= len(regions) <= MOST_REGIONS:
        raise InvalidRegion(None)
    wrong = first_wrong_name(regions)
    if wrong is not None:
        raise InvalidRegion(wrong)


def places_of(regions):
    """Return the place of each region in the order of the regions."""
    return {region: at for at, region in enumerate(regions)}


def first_misplaced(things, places):
    """Return the index of the first thing that is not a region behind the one ahead of it."""
    ahead = -1
    for at, thing in enumerate(things):
        if not isinstance(thing, str) or thing not in places or places[thing] <= ahead:
            return at
        ahead = places[thing]
    return None


def is_patch(thing, places):
    """Tell whether something, whatever it is, is a patch of regions with places."""
    return isinstance(thing, list) and first_misplaced(thing, places) is None


def check_patch(patch, places):
    """Refuse what is not a patch of regions with places."""
    if not isinstance(patch, list):
        raise InvalidPatch(None)
    wrong = first_misplaced(patch, places)
    if wrong is not None:
        raise InvalidPatch(wrong)


def is_first(thing):
    """Tell whether something, whatever it is, is a first colour: None stands for blank."""
    return thing is None or is_name(thing)


def check_first(first):
    """Refuse what is not a first colour."""
    if not is_first(first):
        raise InvalidColour(first)
