"""Two rows compared: whether they are alike, what shows it, and what can be left out or exchanged."""

from coatrows.checks import is_first, is_index, is_patch
from coatrows.claims import clash, claims_about, number_of, numbers_in, numbers_of_patch
from coatrows.errors import InvalidNumber, TooMany
from coatrows.facts import is_claim
from coatrows.outcomes import numbered_outcomes
from coatrows.parting import none_unlike, partings, settled_outcomes
from coatrows.rows import Row, check_known, first_colours, shown, turned

MOST_DEEDS_ORDERED = 12


def check_both(facts, one, other):
    """Refuse two rows with a deed of a region that the facts are not about."""
    places = facts.places()
    check_known(one, places)
    check_known(other, places)


def leave_the_same(facts, one, other):
    """Tell whether two rows, of regions of the facts, are alike."""
    return none_unlike(settled_outcomes(facts, one), settled_outcomes(facts, other))


def alike(facts, one, other):
    """Tell whether two rows are alike under facts."""
    check_both(facts, one, other)
    return leave_the_same(facts, one, other)


def compared(facts, one, other):
    """Return what shows that two rows are alike, or that they are not."""
    check_both(facts, one, other)
    choices = partings(facts, one, other)
    if not choices:
        return "alike", closures(facts, one), closures(facts, other)
    patch = facts.least_among(choices)
    firsts = [first for first in first_colours(one, other) if shown(one, patch, first) != shown(other, patch, first)]
    return "parted", patch, firsts[0]


def closures(facts, row):
    """Return for each outcome of a row the list of all claims that its claims lead to."""
    steps = facts.steps()
    regions = facts.regions()
    found = numbered_outcomes(row.deeds(), facts.places())
    return [claims_about(regions, closure(steps, numbers_in(outcome[3]))) for outcome in found]


def closure(steps, numbers):
    """Return claims and all that ways lead to from them, each behind one that leads to it."""
    found = list(numbers)
    at = 0
    while at < len(found):
        found = found + [claim for claim in numbers_in(steps[found[at]]) if claim not in found]
        at = at + 1
    return found


def compare_holds(facts, one, other, told):
    """Tell whether something, whatever it is, shows that two rows are alike, or that they are not."""
    check_both(facts, one, other)
    if not isinstance(told, tuple) or len(told) != 3 or not isinstance(told[0], str):
        return False
    if told[0] == "alike":
        return papers_hold(read_paper(facts, one, told[1]), read_paper(facts, other, told[2]))
    return told[0] == "parted" and parts_at(facts, one, other, told[1], told[2])


def papers_hold(one, other):
    """Tell whether two papers that were read show that two rows are alike."""
    return one is not None and other is not None and none_unlike(one, other)


def read_paper(facts, row, paper):
    """Return the start and the end of each outcome of a row, and the claims that a paper lists for it.

    None is returned for what is not a paper for this row.
    """
    places = facts.places()
    steps = facts.steps()
    found = numbered_outcomes(row.deeds(), places)
    if not isinstance(paper, list) or len(paper) != len(found):
        return None
    listed = [read_closure(places, steps, outcome[3], told) for outcome, told in zip(found, paper)]
    if None in listed:
        return None
    return [(outcome[0], outcome[4], claims) for outcome, claims in zip(found, listed)]


def read_closure(places, steps, claims, told):
    """Return together the claims of a list that claims lead to, None if this is not such a list."""
    if not isinstance(told, list):
        return None
    allowed = claims
    for number in numbers_in(claims):
        allowed = allowed | steps[number]
    listed = 0
    for claim in told:
        if not is_claim(claim, places):
            return None
        number = number_of(claim, places)
        if not (allowed >> number) & 1:
            return None
        listed = listed | (1 << number)
        allowed = allowed | steps[number]
    return listed


def parts_at(facts, one, other, patch, first):
    """Tell whether two things, whatever they are, are a possible patch and a first colour that part two rows."""
    if not is_patch(patch, facts.places()) or not is_first(first):
        return False
    if clash(facts.led_to(numbers_of_patch(facts.regions(), patch))):
        return False
    return shown(one, patch, first) != shown(other, patch, first)


def hidden(facts, row):
    """Return the indices of the hidden deeds of a row, rising."""
    check_known(row, facts.places())
    return [at for at in range(len(row)) if leave_the_same(facts, row, row.without(at))]


def first_hidden(facts, row):
    """Return the index of the first hidden deed of a row, None if there is none."""
    for at in range(len(row)):
        if leave_the_same(facts, row, row.without(at)):
            return at
    return None


def bare(facts, row):
    """Return a row without its hidden deeds, left out one by one, the first one each time."""
    check_known(row, facts.places())
    at = first_hidden(facts, row)
    while at is not None:
        row = row.without(at)
        at = first_hidden(facts, row)
    return row


def turns_ahead(row):
    """Return the row that does first the turns of a row and then its other deeds."""
    deeds = row.deeds()
    turns = [deed for deed in deeds if deed[0] == "turn"]
    others = []
    for at, deed in enumerate(deeds):
        if deed[0] == "wipe":
            others.append(deed)
        elif deed[0] != "turn":
            others.append((deed[0], turned(deed[1], deeds[at + 1:]), deed[2]))
    return Row(turns + others)


def exchangeable(facts, deed, other):
    """Tell whether two deeds, of regions of the facts, may be exchanged."""
    return leave_the_same(facts, Row([deed, other]), Row([other, deed]))


def may_exchange(facts, row, index):
    """Tell whether the deed at an index and the one behind it may be exchanged."""
    check_known(row, facts.places())
    if not is_index(index, len(row) - 1):
        raise InvalidNumber(index)
    return exchangeable(facts, row[index], row[index + 1])


def kept_ahead(facts, deeds):
    """Return, for each deed, those earlier ones that exchanges always keep ahead of it.

    They are one number, with a bit for each index. Of equal deeds, which are not
    exchanged, the earlier one is kept ahead.
    """
    ahead = []
    for at, deed in enumerate(deeds):
        kept = 0
        for index, other in enumerate(deeds[:at]):
            if deed == other or not exchangeable(facts, other, deed):
                kept = kept | (1 << index)
        ahead.append(kept)
    return ahead


def least_order(facts, row):
    """Return the least of the rows that come from a row by exchanges."""
    check_known(row, facts.places())
    deeds = row.deeds()
    ahead = kept_ahead(facts, deeds)
    done = 0
    order = []
    for _ in deeds:
        free = [at for at in range(len(deeds)) if not (done >> at) & 1 and ahead[at] & done == ahead[at]]
        deed, least = min([(deeds[at], at) for at in free])
        order.append(deed)
        done = done | (1 << least)
    return Row(order)


def count_orders(facts, row):
    """Return the number of the rows that come from a row by exchanges."""
    check_known(row, facts.places())
    if len(row) > MOST_DEEDS_ORDERED:
        raise TooMany(MOST_DEEDS_ORDERED)
    ahead = kept_ahead(facts, row.deeds())
    # For each set of deeds, the number of orders in which these can be done first.
    orders = [1] + [0] * ((1 << len(ahead)) - 1)
    for done in range(len(orders)):
        for at, kept in enumerate(ahead):
            if orders[done] and not (done >> at) & 1 and kept & done == kept:
                orders[done | (1 << at)] = orders[done | (1 << at)] + orders[done]
    return orders[-1]
