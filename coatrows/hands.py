"""Rows that several hands do, fills from above, and the facts that would make two rows alike."""

from coatrows.claims import all_facts, clash, numbers_in, numbers_of_patch, together
from coatrows.comparing import check_both
from coatrows.errors import TooMany
from coatrows.parting import none_unlike, partings, settled_outcomes, unlike
from coatrows.points import FILLING, LASTING, first_fills, lasting, missed
from coatrows.rows import Row, check_kinds, check_painting, in_order

MOST_DEEDS_OF_HANDS = 12


def shown_by_one(mine, others, places):
    """Return what points can show by the hand of one row, if that row has a last deed there.

    Each thing stands in a tuple behind the claims on the points that can show it.
    """
    found = []
    for at, deed in enumerate(mine):
        if deed[0] not in LASTING:
            continue
        claims = lasting(mine, at, places)
        if deed[0] == "put":
            found.append((claims, deed[1]))
            continue
        for fill, more in first_fills(mine, at + 1, places):
            found.append((claims | more, None if fill is None else mine[fill][1]))
        # The wipe can be done straight ahead of any fill that the other hand still does.
        for fill, other in enumerate(others):
            if other[0] in FILLING:
                found.append((claims | lasting(others, fill, places), other[1]))
    return found


def shown_untouched(one, other, places):
    """Return what points can show at which neither row has a last deed, likewise."""
    untouched = missed(one + other, LASTING, places)
    found = [(untouched | missed(one + other, FILLING, places), None)]
    for deeds in (one, other):
        for fill, claims in first_fills(deeds, 0, places):
            if fill is not None:
                found.append((untouched | claims, deeds[fill][1]))
    return found


def shown_in_orders(facts, one, other):
    """Return all that points, blank at first, can show if two hands do two rows, as outcomes."""
    places = facts.places()
    mine = one.deeds()
    others = other.deeds()
    found = shown_by_one(mine, others, places) + shown_by_one(others, mine, places)
    found = found + shown_untouched(mine, others, places)
    settled = [(facts.led_to(numbers_in(claims)), thing) for claims, thing in found]
    return [("any", thing, claims) for claims, thing in settled if not clash(claims)]


def hands_part(facts, one, other):
    """Return the least patch at which the order of two hands decides, with what its points can show."""
    for row in (one, other):
        check_painting(row, LASTING + FILLING, facts.places())
    if len(one) > MOST_DEEDS_OF_HANDS or len(other) > MOST_DEEDS_OF_HANDS:
        raise TooMany(MOST_DEEDS_OF_HANDS)
    found = shown_in_orders(facts, one, other)
    choices = list(unlike(found, found))
    if not choices:
        return None
    patch = facts.least_among(choices)
    whole = together(numbers_of_patch(facts.regions(), patch))
    return patch, in_order([thing for start, thing, claims in found if claims & whole == claims])


def hands_agree(facts, rows):
    """Return the least two rows of which the order of two hands decides, None if there are none."""
    for row in rows:
        check_painting(row, LASTING, facts.places())
    # Only points that both rows reach can show more than one thing.
    reaching = [[told for told in settled_outcomes(facts, row) if told[0] == "any"] for row in rows]
    for at, ones in enumerate(reaching):
        for behind in range(at + 1, len(reaching)):
            if not none_unlike(ones, reaching[behind]):
                return at, behind
    return None


def from_above(row):
    """Return the row of fills that leaves on a blank sheet what a row of puts leaves."""
    check_kinds(row, ("put",))
    return Row([("fill", deed[1], deed[2]) for deed in row.deeds()[::-1]])


def helping(facts, one, other):
    """Return all facts that help two rows, in the order and form of those that follow."""
    check_both(facts, one, other)
    settled = partings(facts, one, other)
    if not settled:
        return []
    forced = facts.forced()
    shared = settled[0]
    for claims in settled:
        shared = shared & claims
    # What every possible patch keeps is true of all patches, without a way to it.
    shared = shared | forced
    told = all_facts(facts.regions())
    return [
        fact for fact, claim, beside in told
        if (shared >> claim) & (shared >> beside) & 1 and not (forced >> claim) & (forced >> beside) & 1
    ]
