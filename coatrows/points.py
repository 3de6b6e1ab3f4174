"""What must be true of the points at which certain deeds of a row decide.

Rows are given as lists of deeds about regions with places, and several claims
are one number. The last deed of a point is the last put or wipe of the row
whose region it lies in.
"""

from coatrows.claims import together

LASTING = ("put", "wipe")
FILLING = ("fill",)


def reached(deed, places):
    """Return the claim that points lie in the region of a deed, as one number."""
    return 1 << (2 * places[deed[-1]] + 1)


def missed(deeds, kinds, places):
    """Return the claims that points lie in no region of the deeds of some kinds."""
    return together([2 * places[deed[-1]] for deed in deeds if deed[0] in kinds])


def lasting(deeds, at, places):
    """Return the claims on points that a deed reaches, and no later put or wipe."""
    return reached(deeds[at], places) | missed(deeds[at + 1:], LASTING, places)


def first_fills(deeds, begin, places):
    """Return which fills can be the first one from an index on, None ahead for no fill at all.

    Each stands in a tuple with the claims on its points.
    """
    found = [(None, missed(deeds[begin:], FILLING, places))]
    for at in range(begin, len(deeds)):
        if deeds[at][0] in FILLING:
            found.append((at, reached(deeds[at], places) | missed(deeds[begin:at], FILLING, places)))
    return found
