"""The document's words on covered deeds, steps, deciding maps, sheets and texts, done plainly."""

import re
from itertools import combinations

from tests import plain, plain_rows

NAME = "[a-z]{1,12}"
DEED = f"(?:wipe {NAME}|{NAME} (?:on|under|to) {NAME})"
ROW = re.compile(f"-|{DEED}(?:; {DEED})*")
# Any beginning of the text of a row becomes one by one of these ends.
ENDS = sorted({text[at:] for word in ("on", "under", "to") for text in [f"; a {word} a"] for at in range(len(text) + 1)})
KINDS = {"on": "put", "under": "fill", "to": "turn"}


def last_at(deeds, patch):
    """Return the index of the last deed whose region a patch lies in, None without one."""
    found = [at for at, deed in enumerate(deeds) if deed[-1] in patch]
    return found[-1] if found else None


def is_covered(patches, deeds, index):
    """Tell whether a put or wipe is at no patch the last one."""
    return all(last_at(deeds, patch) != index for patch in patches)


def covers(patches, deeds, index):
    """Return what covers a put or wipe: no later deed, one, or two of them, the least ones; None if nothing does."""
    if not is_covered(patches, deeds, index):
        return None
    here = [patch for patch in patches if deeds[index][-1] in patch]
    if not here:
        return []
    later = range(index + 1, len(deeds))
    for at in later:
        if all(deeds[at][-1] in patch for patch in here):
            return [at]
    for one, other in combinations(later, 2):
        if all(deeds[one][-1] in patch or deeds[other][-1] in patch for patch in patches):
            return [one, other]
    raise AssertionError("the document promises two deeds")


def behind_step(patches, regions, deeds, step):
    """Return the row to which a step leads, None if it is not allowed."""
    if step[0] == "lay":
        longer = [step[1]] + deeds
        return longer if step[1][-1] in regions and is_covered(patches, longer, 0) else None
    if step[0] == "take":
        return deeds[1:] if deeds and is_covered(patches, deeds, 0) else None
    at = step[1]
    if not 0 <= at < len(deeds) - 1:
        return None
    one, other = deeds[at:at + 2]
    for patch in patches:
        if one[-1] in patch and other[-1] in patch and last_at(deeds, patch) == at + 1:
            if plain_rows.done([one], patch, "x") != plain_rows.done([other], patch, "x"):
                return None
    return deeds[:at] + [other, one] + deeds[at + 2:]


def steps_lead(patches, regions, one, other, steps):
    """Tell whether steps, each allowed, lead from deeds to deeds."""
    for step in steps:
        one = behind_step(patches, regions, one, step)
        if one is None:
            return False
    return one == other


def deciding(regions, patches):
    """Return the patches that no region, one region or two regions imply, rising, each once."""
    told = []
    for many in range(3):
        for chosen in combinations(regions, many):
            lying = [patch for patch in patches if all(region in patch for region in chosen)]
            if lying:
                told.append([region for region in regions if all(region in patch for patch in lying)])
    return [patch for patch in plain.all_patches(regions) if patch in told]


def shown_on(patches, deeds, region):
    """Return all that points of a region of a sheet that was blank can show: blank first, then rising."""
    things = {plain_rows.done(deeds, patch, None) for patch in patches if region in patch}
    return sorted(things, key=lambda thing: (thing is not None, thing or ""))


def is_text(text):
    """Tell whether something is the text of a row, of any number of deeds."""
    return ROW.fullmatch(text) is not None


def longest_beginning(text):
    """Return the length of the longest beginning of a text that is the beginning of the text of some row."""
    return max(end for end in range(len(text) + 1) if any(is_text(text[:end] + more) for more in ENDS))


def deeds_of(text):
    """Return the deeds of the text of a row."""
    told = []
    for words in [deed.split(" ") for deed in text.split("; ")] if text != "-" else []:
        told.append(tuple(words) if len(words) == 2 else (KINDS[words[1]], words[0], words[2]))
    return told
