"""The document's words on facts, done plainly: by going through all patches and all ways."""

from itertools import product

KINDS = ("in", "apart", "cover")


def all_patches(regions):
    """Return all patches of regions, rising."""
    return [
        [region for region, lies in zip(regions, inside) if lies]
        for inside in product((False, True), repeat=len(regions))
    ]


def keeps(patch, fact):
    """Tell whether a patch keeps a fact."""
    kind, one, other = fact
    if kind == "in":
        return one not in patch or other in patch
    if kind == "apart":
        return not (one in patch and other in patch)
    return one in patch or other in patch


def possible(regions, facts):
    """Return all possible patches, rising."""
    return [patch for patch in all_patches(regions) if all(keeps(patch, fact) for fact in facts)]


def true_of(patch, claims):
    """Tell whether claims are true of a patch."""
    return all((region in patch) == lies for region, lies in claims)


def all_facts(regions):
    """Return all facts about regions in the order and form in which those that follow are told."""
    told = []
    for kind in KINDS:
        for at, one in enumerate(regions):
            for behind, other in enumerate(regions):
                if (kind == "in" and at != behind) or (kind != "in" and at <= behind):
                    told.append((kind, one, other))
    return told


def following(regions, facts):
    """Return all facts that follow."""
    patches = possible(regions, facts)
    return [fact for fact in all_facts(regions) if all(keeps(patch, fact) for patch in patches)]


def contrary(claim):
    """Return the contrary of a claim."""
    return claim[0], not claim[1]


def all_claims(regions):
    """Return all claims about regions, in their order."""
    return [(region, lies) for region in regions for lies in (False, True)]


def leads(facts, one, other):
    """Tell whether a stated fact lets a claim lead to another one."""
    for kind, a, b in facts:
        if kind == "in":
            pairs = [((a, True), (b, True)), ((b, False), (a, False))]
        elif kind == "apart":
            pairs = [((a, True), (b, False)), ((b, True), (a, False))]
        else:
            pairs = [((a, False), (b, True)), ((b, False), (a, True))]
        if (one, other) in pairs:
            return True
    return False


def best_way(regions, facts, start, goals):
    """Return the best way to one of the goals: the first of all shortest ones, None without one."""
    claims = all_claims(regions)
    ways = [[start]]
    for _ in claims:
        done = [way for way in ways if way[-1] in goals]
        if done:
            return min(done, key=lambda way: [claims.index(claim) for claim in way])
        ways = [way + [claim] for way in ways for claim in claims if claim not in way and leads(facts, way[-1], claim)]
    return None


def contradiction(regions, facts):
    """Return the two ways for the first region with ways there and back, None without one."""
    for region in regions:
        there = best_way(regions, facts, (region, True), [(region, False)])
        back = best_way(regions, facts, (region, False), [(region, True)])
        if there is not None and back is not None:
            return there, back
    return None


def barred(regions, facts, claims):
    """Return the way that keeps claims from being true together, None without one."""
    goals = [contrary(claim) for claim in claims]
    for claim in all_claims(regions):
        if claim in claims:
            way = best_way(regions, facts, claim, goals)
            if way is not None:
                return way
    return None
