"""Which outcomes of two rows can be met at once and have different ends.

Outcomes are told here as tuples of the start, the end and all claims, as one
number, that ways lead to from those of the outcome.
"""

from coatrows.claims import clash, numbers_in
from coatrows.outcomes import numbered_outcomes


def settled_outcomes(facts, row):
    """Return the possible outcomes of a row."""
    found = []
    for start, last, fill, claims, end in numbered_outcomes(row.deeds(), facts.places()):
        settled = facts.led_to(numbers_in(claims))
        if not clash(settled):
            found.append((start, end, settled))
    return found


def starts_meet(start, other):
    """Tell whether a point can have both starts."""
    return start == other or "any" in (start, other)


def unlike(ones, others):
    """Generate the claims of any two outcomes together, one of each list, that part two rows."""
    for start, end, claims in ones:
        for start_there, end_there, claims_there in others:
            if end != end_there and starts_meet(start, start_there) and not clash(claims | claims_there):
                yield claims | claims_there


def none_unlike(ones, others):
    """Tell whether no two outcomes, one of each list, part two rows."""
    for _ in unlike(ones, others):
        return False
    return True


def partings(facts, one, other):
    """Return the claims of any two outcomes together, one of each row, that part the rows."""
    ones = settled_outcomes(facts, one)
    others = settled_outcomes(facts, other)
    return list(unlike(ones, others))
