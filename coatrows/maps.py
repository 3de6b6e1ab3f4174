"""Maps: the facts that they keep, what majorities make of them, and maps drawn from facts."""

from coatrows.checks import check_patch, check_regions, is_index, is_patch, places_of
from coatrows.claims import all_facts, breaking, numbers_of_patch, patch_of, together
from coatrows.errors import InvalidMap
from coatrows.facts import Facts

MOST_PATCHES = 1200


def check_map(patches, places):
    """Refuse what is not a map of patches of regions with places."""
    if not isinstance(patches, list) or not 1 <= len(patches) <= MOST_PATCHES:
        raise InvalidMap(None)
    for at, patch in enumerate(patches):
        if not is_patch(patch, places):
            raise InvalidMap(at)


def true_in(regions, patches):
    """Return, for each claim about regions, the patches of which it is true.

    Several patches are one number, with a bit for each of them.
    """
    where = [0] * (2 * len(regions))
    for at, patch in enumerate(patches):
        for claim in numbers_of_patch(regions, patch):
            where[claim] = where[claim] | (1 << at)
    return where


def first_of(bits):
    """Return the first index in one number with a bit for each, None if there is none."""
    return (bits & -bits).bit_length() - 1 if bits else None


def majority_of(one, two, three):
    """Return the claims of three numbers that stand in two of them at least."""
    return (one & two) | (one & three) | (two & three)


def facts_of(regions, patches):
    """Return the facts that a map keeps."""
    check_regions(regions)
    check_map(patches, places_of(regions))
    where = true_in(regions, patches)
    kept = [fact for fact, claim, beside in all_facts(regions) if not where[claim] & where[beside]]
    return Facts(regions, kept)


def first_break(facts, patches):
    """Return the first patch that breaks a stated fact and the first fact that it breaks."""
    places = facts.places()
    check_map(patches, places)
    where = true_in(facts.regions(), patches)
    found = None
    for index, (kind, one, other) in enumerate(facts.stated()):
        claim, beside = breaking(kind, places[one], places[other])
        at = first_of(where[claim] & where[beside])
        if at is not None and (found is None or at < found[0]):
            found = (at, index)
    return found


def majority(regions, one, two, three):
    """Return the majority of three patches."""
    check_regions(regions)
    places = places_of(regions)
    for patch in (one, two, three):
        check_patch(patch, places)
    bits = [together(numbers_of_patch(regions, patch)) for patch in (one, two, three)]
    return patch_of(regions, majority_of(bits[0], bits[1], bits[2]))


def making(regions, patches, patch):
    """Return steps that make a patch from a map, None if there are none."""
    check_regions(regions)
    places = places_of(regions)
    check_map(patches, places)
    check_patch(patch, places)
    if patch in patches:
        return []
    where = true_in(regions, patches)
    lying = [where[claim] for claim in numbers_of_patch(regions, patch)]
    if not all([one & other for one in lying for other in lying]):
        return None
    return steps_to(lying, len(patches))


def steps_to(lying, many):
    """Return steps that make a patch from many patches.

    For each region the patches are given that lie in it, or not, as the patch does;
    for any two regions there is one among them that does so for both.
    """
    steps = []
    # The patch of the number whole is right for all regions ahead of the place.
    whole = first_of(lying[0] & lying[1])
    for place in range(2, len(lying)):
        # The patch of the number part is right for the place and the regions up to one.
        part = first_of(lying[0] & lying[place])
        for at in range(1, place):
            steps.append((whole, part, first_of(lying[at] & lying[place])))
            part = many + len(steps) - 1
        whole = part
    return steps


def is_step(thing, many):
    """Tell whether something, whatever it is, is a step with numbers of many patches."""
    return isinstance(thing, tuple) and len(thing) == 3 and all([is_index(number, many) for number in thing])


def making_holds(regions, patches, patch, steps):
    """Tell whether something, whatever it is, is a list of steps that make a patch from a map."""
    check_regions(regions)
    places = places_of(regions)
    check_map(patches, places)
    check_patch(patch, places)
    if not isinstance(steps, list):
        return False
    if not steps:
        return patch in patches
    made = [together(numbers_of_patch(regions, known)) for known in patches]
    for step in steps:
        if not is_step(step, len(made)):
            return False
        one, two, three = step
        made.append(majority_of(made[one], made[two], made[three]))
    return patch_of(regions, made[-1]) == patch


def drawn(facts):
    """Return a map of possible patches that keeps a fact exactly if it follows."""
    claims = [(region, lies) for region in facts.regions() for lies in (False, True)]
    found = {}
    # Any two claims that can be true together are true of one patch at least.
    for at, claim in enumerate(claims):
        for beside in claims[at:]:
            patch = facts.least_patch([claim, beside])
            if patch is not None:
                found[tuple(patch)] = patch
    return list(found.values())
