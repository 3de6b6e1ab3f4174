"""Claims as numbers, and the ways between them that facts make.

The claim that a point lies in the region at an index is the number
2 * index + 1, and its contrary is 2 * index: so numbers are ordered as claims
are. Several claims together are one whole number, with a bit for each of them.
A patch is told by the claims that are true of it, one about each region.
"""

# For each kind of facts the two sides, of the first and of the second region,
# on which a point breaks it (1 is inside). The kinds stand in their order.
BROKEN_BY = {"in": (1, 0), "apart": (1, 1), "cover": (0, 0)}

# The bits of all claims that a point does not lie in a region, for 24 regions.
OUTSIDE = 0x555555555555


def contrary(claim):
    """Return the contrary of a claim."""
    return claim ^ 1


def together(claims):
    """Return several claims as one number."""
    bits = 0
    for claim in claims:
        bits = bits | (1 << claim)
    return bits


def numbers_in(bits):
    """Return the claims, rising, of which one number consists."""
    return [claim for claim in range(bits.bit_length()) if (bits >> claim) & 1]


def number_of(claim, places):
    """Return a claim about regions with places as a number."""
    return 2 * places[claim[0]] + (1 if claim[1] else 0)


def claims_about(regions, numbers):
    """Return numbers as claims about regions."""
    return [(regions[number // 2], (number & 1) == 1) for number in numbers]


def numbers_of_patch(regions, patch):
    """Return the claims about regions that are true of a patch, rising."""
    return [2 * at + (1 if region in patch else 0) for at, region in enumerate(regions)]


def patch_of(regions, bits):
    """Return the patch of which claims, one about each region, are true."""
    return [region for at, region in enumerate(regions) if (bits >> (2 * at + 1)) & 1]


def clash(bits):
    """Tell whether claims contain one together with its contrary."""
    return (bits & (bits >> 1) & OUTSIDE) != 0


def breaking(kind, first, second):
    """Return the two claims with which a point breaks a fact about two indices."""
    side, other = BROKEN_BY[kind]
    return 2 * first + side, 2 * second + other


def all_facts(regions):
    """Return all facts about regions as tuples of the fact and the two claims that break it.

    They stand in the order and form in which facts that follow are told.
    """
    told = []
    for kind in BROKEN_BY:
        for first, one in enumerate(regions):
            for second, other in enumerate(regions):
                if (first != second) if kind == "in" else (first <= second):
                    claim, beside = breaking(kind, first, second)
                    told.append(((kind, one, other), claim, beside))
    return told


def steps_of(many, pairs):
    """Return, for each claim about many regions, those that it leads to in one step.

    Each pair are two claims that a fact forbids to be true of the same point:
    either of them leads to the contrary of the other one.
    """
    steps = [0] * (2 * many)
    for one, other in pairs:
        steps[one] = steps[one] | (1 << contrary(other))
        steps[other] = steps[other] | (1 << contrary(one))
    return steps


def reach_of(steps):
    """Return, for each claim, those that ways lead to, with the claim itself."""
    reach = [steps[claim] | (1 << claim) for claim in range(len(steps))]
    for middle in range(len(reach)):
        for claim in range(len(reach)):
            if (reach[claim] >> middle) & 1:
                reach[claim] = reach[claim] | reach[middle]
    return reach


def best_way(steps, start, goals):
    """Return the best of the shortest ways from a claim to one of the goals.

    It is a list of claims, None if there is no way. The ways of one length are
    kept as claims order them, so the first way that arrives is the best one.
    """
    ways = [[start]]
    seen = 1 << start
    while ways:
        for way in ways:
            if (goals >> way[-1]) & 1:
                return way
        longer = []
        for way in ways:
            for claim in range(len(steps)):
                if (steps[way[-1]] >> claim) & 1 and not (seen >> claim) & 1:
                    seen = seen | (1 << claim)
                    longer.append(way + [claim])
        ways = longer
    return None
