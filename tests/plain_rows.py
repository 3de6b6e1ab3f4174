"""The document's words on rows, done plainly: deed by deed, at all patches and for all first colours."""

from itertools import permutations, product

from tests import plain

STARTS = ("coloured", "blank", "any")


def done(deeds, patch, first):
    """Return what the points of a patch with a first colour show behind deeds, done one by one."""
    colour = first
    for deed in deeds:
        if deed[0] == "put" and deed[2] in patch:
            colour = deed[1]
        elif deed[0] == "fill" and deed[2] in patch and colour is None:
            colour = deed[1]
        elif deed[0] == "wipe" and deed[1] in patch:
            colour = None
        elif deed[0] == "turn" and colour == deed[1]:
            colour = deed[2]
    return colour


def colours_of(deeds):
    """Return the colours of deeds, rising."""
    told = [deed[1] for deed in deeds if deed[0] != "wipe"] + [deed[2] for deed in deeds if deed[0] == "turn"]
    return sorted(set(told))


def first_colours(*rows):
    """Return the first colours that decide about rows of deeds."""
    used = colours_of([deed for deeds in rows for deed in deeds])
    letters = "abcdefghijklmnopqrstuvwxyz"
    names = list(letters) + [one + other for one in letters for other in letters]
    return [None] + used + [name for name in names if name not in used][:1]


def outcome_of(deeds, regions, patch, first):
    """Return the outcome of the points of a patch with a first colour, by the document's words."""
    lasting = [at for at, deed in enumerate(deeds) if deed[0] in ("put", "wipe") and deed[-1] in patch]
    last = lasting[-1] if lasting else None
    start = "any" if lasting else ("blank" if first is None else "coloured")
    behind = range(last + 1 if lasting else 0, len(deeds))
    fill = None
    outside = [deeds[at][-1] for at in behind if deeds[at][0] in ("put", "wipe")]
    if start == "blank" or (lasting and deeds[last][0] == "wipe"):
        fills = [at for at in behind if deeds[at][0] == "fill" and deeds[at][2] in patch]
        fill = fills[0] if fills else None
        outside += [deeds[at][2] for at in behind if deeds[at][0] == "fill" and (fill is None or at < fill)]
    inside = [deeds[at][-1] for at in (last, fill) if at is not None]
    claims = [
        (region, lies) for region in regions for lies in (False, True) if region in (inside if lies else outside)
    ]
    if start == "coloured":
        turns = [deed for deed in deeds if deed[0] == "turn"]
        ends = [(colour, done(turns, [], colour)) for colour in colours_of(turns)]
        return start, last, fill, claims, tuple(end for end in ends if end[0] != end[1])
    return start, last, fill, claims, done(deeds, patch, first)


def place_of(outcome):
    """Return what outcomes are ordered by."""
    return STARTS.index(outcome[0]), *[-1 if at is None else at for at in outcome[1:3]]


def outcomes(deeds, regions):
    """Return all outcomes of deeds: those that points of any patch, possible or not, have."""
    found = []
    for patch in plain.all_patches(regions):
        for first in (None, "new"):
            outcome = outcome_of(deeds, regions, patch, first)
            if outcome not in found:
                found.append(outcome)
    return sorted(found, key=place_of)


def partings(patches, one, other):
    """Return each patch and first colour at which two rows leave unlike things, in order."""
    return [
        (patch, first) for patch in patches for first in first_colours(one, other)
        if done(one, patch, first) != done(other, patch, first)
    ]


def alike(patches, one, other):
    """Tell whether two rows leave the same at patches."""
    return not partings(patches, one, other)


def hidden(patches, deeds):
    """Return the indices of the hidden deeds."""
    return [at for at in range(len(deeds)) if alike(patches, deeds, deeds[:at] + deeds[at + 1:])]


def bare(patches, deeds):
    """Return deeds without the hidden ones, left out one by one."""
    found = hidden(patches, deeds)
    while found:
        deeds = deeds[:found[0]] + deeds[found[0] + 1:]
        found = hidden(patches, deeds)
    return deeds


def may_exchange(patches, one, other):
    """Tell whether two deeds may be exchanged."""
    return alike(patches, [one, other], [other, one])


def orders(patches, deeds):
    """Return all rows that come from a row by exchanges."""
    found = [deeds]
    for row in found:
        for at, (one, other) in enumerate(zip(row, row[1:])):
            exchanged = row[:at] + [other, one] + row[at + 2:]
            if one != other and exchanged not in found and may_exchange(patches, one, other):
                found.append(exchanged)
    return found


def mixes(rows):
    """Return all orders in which hands can do rows, each in its order."""
    hands = sorted(hand for hand, deeds in enumerate(rows) for _ in deeds)
    told = []
    for order in sorted(set(permutations(hands))):
        waiting = [list(deeds) for deeds in rows]
        told.append([waiting[hand].pop(0) for hand in order])
    return told


def shown_by_hands(rows, patch, first):
    """Return all that points of a patch can show behind some order of hands: blank first, then rising."""
    things = {done(deeds, patch, first) for deeds in mixes(rows)}
    return sorted(things, key=lambda thing: (thing is not None, thing or ""))


def helping(regions, facts, one, other):
    """Return all facts that help two rows."""
    if alike(plain.possible(regions, facts), one, other):
        return []
    told = []
    for fact in plain.all_facts(regions):
        patches = plain.possible(regions, facts + [fact])
        if patches and alike(patches, one, other):
            told.append(fact)
    return told


def paper_holds(regions, facts, one, other, papers):
    """Tell whether two lists of lists of claims show that two rows are alike."""
    found = [outcomes(one, regions), outcomes(other, regions)]
    for outs, paper in zip(found, papers):
        if len(outs) != len(paper):
            return False
        for outcome, listed in zip(outs, paper):
            for at, claim in enumerate(listed):
                sources = outcome[3] + listed[:at]
                if claim not in outcome[3] and not any(plain.leads(facts, source, claim) for source in sources):
                    return False
    for (out, listed), (back, others) in product(zip(found[0], papers[0]), zip(found[1], papers[1])):
        excluded = "any" not in (out[0], back[0]) and out[0] != back[0]
        both = listed + others
        if not excluded and out[4] != back[4] and not any(plain.contrary(claim) in both for claim in both):
            return False
    return True


def majority(regions, one, two, three):
    """Return the majority of three patches."""
    return [region for region in regions if sum(region in patch for patch in (one, two, three)) >= 2]


def made_from(regions, patches):
    """Return all patches that are made from a map."""
    found = [patch for patch in plain.all_patches(regions) if patch in patches]
    while True:
        more = []
        for one, two, three in product(found, repeat=3):
            patch = majority(regions, one, two, three)
            if patch not in found and patch not in more:
                more.append(patch)
        if not more:
            return found
        found = found + more
