"""Facts about regions, two at a time, and what follows from them."""

from coatrows.checks import check_regions
from coatrows.claims import BROKEN_BY, best_way, breaking, clash, contrary, reach_of, steps_of, together
from coatrows.errors import Contradiction, InvalidClaim, InvalidFact, InvalidRegion, TooMany

MOST_FACTS = 1200
MOST_REGIONS_COUNTED = 16


def is_fact(thing, places):
    """Tell whether something, whatever it is, is a fact about regions with places."""
    if not isinstance(thing, tuple) or len(thing) != 3:
        return False
    if not all([isinstance(word, str) for word in thing]):
        return False
    return thing[0] in BROKEN_BY and thing[1] in places and thing[2] in places


def is_claim(thing, places):
    """Tell whether something, whatever it is, is a claim about regions with places."""
    if not isinstance(thing, tuple) or len(thing) != 2:
        return False
    if thing[1] is not True and thing[1] is not False:
        return False
    return isinstance(thing[0], str) and thing[0] in places


def check_facts(facts, places):
    """Refuse what is not a list of so many facts about regions with places."""
    if not isinstance(facts, list) or len(facts) > MOST_FACTS:
        raise InvalidFact(None)
    for at, fact in enumerate(facts):
        if not is_fact(fact, places):
            raise InvalidFact(at)


class Facts:
    """Facts about regions that hold together."""

    def __init__(self, regions, facts):
        check_regions(regions)
        places = {region: at for at, region in enumerate(regions)}
        check_facts(facts, places)
        pairs = [breaking(kind, places[one], places[other]) for kind, one, other in facts]
        self._regions = list(regions)
        self._stated = list(facts)
        self._places = places
        self._steps = steps_of(len(regions), pairs)
        self._reach = reach_of(self._steps)
        self._refuse_contradiction()

    def regions(self):
        """Return the regions as they were passed."""
        return list(self._regions)

    def stated(self):
        """Return the facts as they were passed."""
        return list(self._stated)

    def following(self):
        """Return all facts that follow, each once, in their order."""
        told = []
        for kind in BROKEN_BY:
            for first, one in enumerate(self._regions):
                for second, other in enumerate(self._regions):
                    listed = (first != second) if kind == "in" else (first <= second)
                    if listed and self._follows(kind, first, second):
                        told.append((kind, one, other))
        return told

    def way(self, claim, other):
        """Return the best way from one claim to another one, None if there is none."""
        for at, told in enumerate((claim, other)):
            if not is_claim(told, self._places):
                raise InvalidClaim(at)
        way = best_way(self._steps, self._number(claim), 1 << self._number(other))
        return None if way is None else self._claims(way)

    def least_patch(self, claims):
        """Return the least possible patch of which claims are true, None without one."""
        for patch in self.patches(claims):
            return patch
        return None

    def barred(self, claims):
        """Return the way that keeps claims from being true together, None if they can be."""
        numbers = self._numbers(claims)
        goals = together([contrary(number) for number in numbers])
        for number in numbers:
            way = best_way(self._steps, number, goals)
            if way is not None:
                return self._claims(way)
        return None

    def patches(self, claims):
        """Generate all possible patches of which claims are true, rising."""
        waiting = [(0, self._led_to(self._numbers(claims)))]
        # Claims that do not clash are true of some patch: no branch is in vain.
        while waiting:
            at, settled = waiting.pop()
            if clash(settled):
                continue
            if at == len(self._regions):
                yield self._patch(settled)
            else:
                waiting.append((at + 1, settled | self._reach[2 * at + 1]))
                waiting.append((at + 1, settled | self._reach[2 * at]))

    def count_patches(self):
        """Return the number of all possible patches."""
        if len(self._regions) > MOST_REGIONS_COUNTED:
            raise TooMany(MOST_REGIONS_COUNTED)
        many = 0
        for _ in self.patches([]):
            many = many + 1
        return many

    def __contains__(self, x):
        if not is_fact(x, self._places):
            return False
        kind, one, other = x
        return self._follows(kind, self._places[one], self._places[other])

    def __and__(self, other):
        if not isinstance(other, Facts) or self._regions != other._regions:
            raise InvalidRegion(None)
        known = {fact: True for fact in self._stated}
        facts = self._stated + [fact for fact in other._stated if fact not in known]
        if len(facts) > MOST_FACTS:
            raise TooMany(MOST_FACTS)
        return Facts(self._regions, facts)

    def __eq__(self, other):
        if not isinstance(other, Facts) or self._regions != other._regions:
            return False
        return self.following() == other.following()

    def _refuse_contradiction(self):
        """Raise an error, with the ways that show it, if the facts do not hold together."""
        for place in range(len(self._regions)):
            inside = 2 * place + 1
            outside = contrary(inside)
            if (self._reach[inside] >> outside) & (self._reach[outside] >> inside) & 1:
                there = best_way(self._steps, inside, 1 << outside)
                back = best_way(self._steps, outside, 1 << inside)
                raise Contradiction(self._claims(there), self._claims(back))

    def _follows(self, kind, first, second):
        """Tell whether a fact about the regions at two places follows."""
        return clash(self._led_to(breaking(kind, first, second)))

    def _led_to(self, numbers):
        """Return all claims together that ways lead to from some."""
        settled = 0
        for number in numbers:
            settled = settled | self._reach[number]
        return settled

    def _number(self, claim):
        """Return a claim as a number."""
        return 2 * self._places[claim[0]] + (1 if claim[1] else 0)

    def _numbers(self, claims):
        """Return claims as numbers, rising, each once, and refuse what are no claims."""
        if not isinstance(claims, list):
            raise InvalidClaim(None)
        for at, claim in enumerate(claims):
            if not is_claim(claim, self._places):
                raise InvalidClaim(at)
        return sorted({self._number(claim) for claim in claims})

    def _claims(self, numbers):
        """Return numbers as claims."""
        return [(self._regions[number // 2], (number & 1) == 1) for number in numbers]

    def _patch(self, settled):
        """Return the patch of which claims, one about each region, are true."""
        return [region for at, region in enumerate(self._regions) if (settled >> (2 * at + 1)) & 1]
