"""What names and indices are, and which lists of names are refused."""

from coatrows.errors import InvalidRegion

LETTERS = "abcdefghijklmnopqrstuvwxyz"
MOST_LETTERS = 12
MOST_REGIONS = 24


def is_name(thing):
    """Tell whether something, whatever it is, is a name."""
    if not isinstance(thing, str) or not 1 <= len(thing) <= MOST_LETTERS:
        return False
    return all([letter in LETTERS for letter in thing])


def is_index(thing, many):
    """Tell whether something, whatever it is, is the index of one of many things."""
    if not isinstance(thing, int) or isinstance(thing, bool):
        return False
    return 0 <= thing < many


def first_wrong_name(things):
    """Return the index of the first thing that is not a name or has occurred."""
    seen = set()
    for at, thing in enumerate(things):
        if not is_name(thing) or thing in seen:
            return at
        seen.add(thing)
    return None


def check_regions(regions):
    """Refuse what is not a list of so many different names of regions."""
    if not isinstance(regions, list) or not 1 <= len(regions) <= MOST_REGIONS:
        raise InvalidRegion(None)
    wrong = first_wrong_name(regions)
    if wrong is not None:
        raise InvalidRegion(wrong)
