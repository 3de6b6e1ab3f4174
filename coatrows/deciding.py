"""The least map that decides whether rows are alike, and rows that need each of its patches."""

from coatrows.checks import check_patch, is_name
from coatrows.claims import clash, numbers_of_patch, patch_of, together
from coatrows.errors import InvalidFact, InvalidMap
from coatrows.points import LASTING
from coatrows.rows import Row, first_colours, shown_behind, turned


def check_no_covers(facts):
    """Refuse facts that state that two different regions cover the sheet."""
    for at, (kind, one, other) in enumerate(facts.stated()):
        if kind == "cover" and one != other:
            raise InvalidFact(at)


def implied_patches(facts):
    """Return the patches that no region, one region or two regions imply.

    Each stands in a tuple with these regions: none, or two that may be the same.
    """
    regions = facts.regions()
    forced = facts.forced()
    found = [(patch_of(regions, forced), [])]
    for at, one in enumerate(regions):
        for behind in range(at, len(regions)):
            claims = facts.led_to([2 * at + 1, 2 * behind + 1])
            if not clash(claims):
                found.append((patch_of(regions, claims | forced), [one, regions[behind]]))
    return found


def deciding(facts):
    """Return the deciding map."""
    check_no_covers(facts)
    regions = facts.regions()
    # The claims that are true of patches are ordered as the patches are.
    told = sorted({tuple(numbers_of_patch(regions, patch)) for patch, by in implied_patches(facts)})
    return [patch_of(regions, together(numbers)) for numbers in told]


def needing(facts, patch):
    """Return two rows that only a patch of the deciding map tells apart, None if it is none."""
    check_no_covers(facts)
    check_patch(patch, facts.places())
    for implied, by in implied_patches(facts):
        if implied == patch:
            return rows_apart(facts, patch, by)
    return None


def rows_apart(facts, patch, by):
    """Return two rows that leave unlike things only at the patch that some regions imply."""
    one = [("turn", "a", "b")]
    other = []
    if by:
        one = [("put", "a", by[0]), ("put", "b", by[1])]
        other = [("put", "b", by[1]), ("put", "a", by[0])]
    # Each other possible patch in these regions lies in one more region than the patch does.
    over = [("put", "c", region) for region in facts.regions() if region not in patch]
    return Row(one + over), Row(other + over)


def check_lists_of_names(patches):
    """Refuse what is not a list of lists of different names."""
    if not isinstance(patches, list):
        raise InvalidMap(None)
    # There may be millions of names: each different one is looked at once.
    known = {}
    for at, patch in enumerate(patches):
        if not isinstance(patch, list) or not all([isinstance(thing, str) for thing in patch]):
            raise InvalidMap(at)
        fresh = [word for word in patch if word not in known]
        if len(set(patch)) < len(patch) or not all([is_name(word) for word in fresh]):
            raise InvalidMap(at)
        for name in fresh:
            known[name] = True


def left_at(deeds, patch):
    """Return whether a put or wipe reaches a patch, and what points that are blank at first show behind deeds."""
    reached = False
    colour = None
    for deed in deeds:
        reached = reached or (deed[0] in LASTING and deed[-1] in patch)
        colour = shown_behind(deed, patch, colour)
    return reached, colour


def alike_on(patches, one, other):
    """Tell whether two rows leave the same at each of some patches for each first colour."""
    check_lists_of_names(patches)
    ones = one.deeds()
    others = other.deeds()
    colours = first_colours(one, other)[1:]
    same_turns = all([turned(colour, ones) == turned(colour, others) for colour in colours])
    used = {region: True for region in one.regions() + other.regions()}
    for patch in patches:
        here = {region: True for region in patch if region in used}
        left = left_at(ones, here)
        # What is reached by one row only shows the first colour behind the other row alone.
        if left != left_at(others, here) or not (left[0] or same_turns):
            return False
    return True
