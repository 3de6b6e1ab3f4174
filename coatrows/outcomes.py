"""What becomes of the points of a sheet behind a row: its outcomes."""

from coatrows.checks import check_first, check_patch, check_regions, places_of
from coatrows.claims import clash, claims_about, numbers_in, numbers_of_patch, together
from coatrows.points import LASTING, first_fills, lasting, missed
from coatrows.rows import check_known, in_order, turned


def changes(deeds):
    """Return the tuples of two different colours of which turns make the second of the first."""
    colours = sorted({deed[1] for deed in deeds if deed[0] == "turn"})
    ways = [(colour, turned(colour, deeds)) for colour in colours]
    return tuple([(colour, end) for colour, end in ways if colour != end])


def bare_outcomes(deeds, places, start, last, claims):
    """Return the outcomes of bare points with a start and a last deed, of which claims are true."""
    begin = 0 if last is None else last + 1
    found = []
    for fill, more in first_fills(deeds, begin, places):
        end = None if fill is None else turned(deeds[fill][1], deeds[fill + 1:])
        found.append((start, last, fill, claims | more, end))
    return found


def numbered_outcomes(deeds, places):
    """Return all outcomes of a row of deeds, each with its claims as one number."""
    untouched = missed(deeds, LASTING, places)
    found = [("coloured", None, None, untouched, changes(deeds))]
    found.extend(bare_outcomes(deeds, places, "blank", None, untouched))
    for at, deed in enumerate(deeds):
        if deed[0] == "put":
            found.append(("any", at, None, lasting(deeds, at, places), turned(deed[1], deeds[at + 1:])))
        elif deed[0] == "wipe":
            found.extend(bare_outcomes(deeds, places, "any", at, lasting(deeds, at, places)))
    return [outcome for outcome in found if not clash(outcome[3])]


def has_start(start, first):
    """Tell whether a point with a first colour, or blank, can have a start."""
    return start == "any" or (start == "blank") == (first is None)


def end_of(end, first):
    """Return what a point with a first colour shows that has an outcome with an end."""
    return dict(end).get(first, first) if isinstance(end, tuple) else end


def told(found, regions):
    """Return outcomes with their claims as lists of claims about regions."""
    return [
        (start, last, fill, claims_about(regions, numbers_in(claims)), end)
        for start, last, fill, claims, end in found
    ]


def outcomes(row, regions):
    """Return all outcomes of a row, with the claims in the order of regions."""
    check_regions(regions)
    places = places_of(regions)
    check_known(row, places)
    return told(numbered_outcomes(row.deeds(), places), regions)


def possible_outcomes(facts, row):
    """Return the outcomes of a row that are possible under facts."""
    places = facts.places()
    check_known(row, places)
    found = numbered_outcomes(row.deeds(), places)
    return told([one for one in found if not clash(facts.led_to(numbers_in(one[3])))], facts.regions())


def outcome_at(facts, row, patch, first):
    """Return the index of the outcome of a row that the points of a patch with a first colour have."""
    places = facts.places()
    check_known(row, places)
    check_patch(patch, places)
    check_first(first)
    whole = together(numbers_of_patch(facts.regions(), patch))
    found = numbered_outcomes(row.deeds(), places)
    fitting = [has_start(one[0], first) and one[3] & whole == one[3] for one in found]
    return fitting.index(True)


def colours_on(facts, row, claims, first):
    """Return all that points of possible patches can show of which claims are true."""
    places = facts.places()
    check_known(row, places)
    numbers = facts.numbers(claims)
    check_first(first)
    things = []
    for start, last, fill, more, end in numbered_outcomes(row.deeds(), places):
        if has_start(start, first) and not clash(facts.led_to(numbers + numbers_in(more))):
            things.append(end_of(end, first))
    return in_order(things)
