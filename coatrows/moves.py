"""Covered deeds, and the steps that lead from one row of puts and wipes to another one.

Inside this module rows are lists of puts and wipes, also of more than 30 deeds.
"""

from coatrows.checks import is_index
from coatrows.claims import clash
from coatrows.comparing import leave_the_same
from coatrows.errors import InvalidNumber
from coatrows.points import LASTING
from coatrows.rows import check_painting, is_deed


def inside(deed, places):
    """Return the claim that points lie in the region of a deed."""
    return 2 * places[deed[-1]] + 1


def outside(deeds, places):
    """Return the claims that points lie in no region of deeds, rising."""
    return sorted({2 * places[deed[-1]] for deed in deeds})


def is_covered(facts, deeds, at):
    """Tell whether the deed at an index is nowhere the last one."""
    places = facts.places()
    return clash(facts.led_to([inside(deeds[at], places)] + outside(deeds[at + 1:], places)))


def covers(facts, row, index):
    """Return the indices of the least later deeds that cover a deed, None if it is not covered."""
    places = facts.places()
    check_painting(row, LASTING, places)
    if not is_index(index, len(row)):
        raise InvalidNumber(index)
    deeds = row.deeds()
    if not is_covered(facts, deeds, index):
        return None
    here = facts.led_to([inside(deeds[index], places)])
    if clash(here):
        return []
    beyond = [(at, facts.led_to(outside([deeds[at]], places))) for at in range(index + 1, len(deeds))]
    for at, away in beyond:
        if clash(here | away):
            return [at]
    pairs = [[at, behind] for at, away in beyond for behind, gone in beyond if at < behind and clash(away | gone)]
    return pairs[0]


def moves(facts, one, other):
    """Return steps that lead from one row to another one, None if the rows are not alike."""
    for row in (one, other):
        check_painting(row, LASTING, facts.places())
    if not leave_the_same(facts, one, other):
        return None
    # Rows that are alike reach the same points: so either of them covers all deeds that stand ahead of it.
    steps = [("lay", deed) for deed in other.deeds()[::-1]]
    # Where a deed meets one of the other row and none is behind them, both are last ones, and leave the same.
    for place in range(len(one)):
        steps = steps + [("swap", place + ahead) for ahead in range(len(other) - 1, -1, -1)]
    return steps + [("take",)] * len(one)


def moves_hold(facts, one, other, told):
    """Tell whether something, whatever it is, is a list of steps that lead from one row to another one."""
    for row in (one, other):
        check_painting(row, LASTING, facts.places())
    if not isinstance(told, list):
        return False
    deeds = one.deeds()
    for step in told:
        deeds = behind_step(facts, deeds, step)
        if deeds is None:
            return False
    return deeds == other.deeds()


def behind_step(facts, deeds, step):
    """Return the row to which something, whatever it is, leads, None if it is no step or not allowed."""
    if not isinstance(step, tuple) or len(step) not in (1, 2) or not isinstance(step[0], str):
        return None
    if step[0] == "lay" and len(step) == 2:
        return behind_lay(facts, deeds, step[1])
    if step[0] == "swap" and len(step) == 2:
        return behind_swap(facts, deeds, step[1])
    if step == ("take",) and deeds and is_covered(facts, deeds, 0):
        return deeds[1:]
    return None


def behind_lay(facts, deeds, deed):
    """Return the row with something set ahead, None if this is not allowed."""
    if not is_deed(deed) or deed[0] not in LASTING or deed[-1] not in facts.places():
        return None
    longer = [deed] + deeds
    return longer if is_covered(facts, longer, 0) else None


def behind_swap(facts, deeds, index):
    """Return the row with two neighbours exchanged, None if this is not allowed."""
    if not is_index(index, len(deeds) - 1):
        return None
    one = deeds[index]
    other = deeds[index + 1]
    behind = deeds[index + 2:]
    # Without the region a put tells its colour alone, and a wipe that it is one.
    if one[:-1] != other[:-1]:
        places = facts.places()
        met = [inside(one, places), inside(other, places)]
        if not clash(facts.led_to(met + outside(behind, places))):
            return None
    return deeds[:index] + [other, one] + behind
