"""Facts about regions, two at a time, and what follows from them."""

from coatrows.checks import check_regions, places_of
from coatrows.claims import BROKEN_BY, best_way, breaking, clash, contrary, reach_of, steps_of, together
from coatrows.claims import all_facts, claims_about, number_of, patch_of
from coatrows.errors import Contradiction, InvalidClaim, InvalidFact, InvalidRegion, TooMany

MOST_FACTS = 1200
MOST_REGIONS_COUNTED = 16


def is_fact(thing, places):
    """Tell whether something, whatever it is, is a fact about regions with places."""
    if not isinstance(thing, tuple) or len(thing) != 3:
        return False
    if not all([isinstance(word, str) for word in thing]):
        return False
    return thing[0] in BROKEN_BY and thing[1] in places and thing[2] in places


def is_claim(thing, places):
    """Tell whether something, whatever it is, is a claim about regions with places."""
    if not isinstance(thing, tuple) or len(thing) != 2:
        return False
    if thing[1] is not True and thing[1] is not False:
        return False
    return isinstance(thing[0], str) and thing[0] in places


def check_facts(facts, places):
    """Refuse what is not a list of so many facts about regions with places."""
    if not isinstance(facts, list) or len(facts) > MOST_FACTS:
        raise InvalidFact(None)
    for at, fact in enumerate(facts):
        if not is_fact(fact, places):
            raise InvalidFact(at)


class Facts:
    """Facts about regions that hold together."""

    def __init__(self, regions, facts):
        check_regions(regions)
        places = places_of(regions)
        check_facts(facts, places)
        pairs = [breaking(kind, places[one], places[other]) for kind, one, other in facts]
        self._regions = list(regions)
        self._stated = list(facts)
        self._places = places
        self._steps = steps_of(len(regions), pairs)
        self._reach = reach_of(self._steps)
        self._refuse_contradiction()

    def regions(self):
        """Return the regions as they were passed."""
        return list(self._regions)

    def stated(self):
        """Return the facts as they were passed."""
        return list(self._stated)

    def following(self):
        """Return all facts that follow, each once, in their order."""
        told = all_facts(self._regions)
        return [fact for fact, claim, beside in told if clash(self.led_to([claim, beside]))]

    def way(self, claim, other):
        """Return the best way from one claim to another one, None if there is none."""
        for at, told in enumerate((claim, other)):
            if not is_claim(told, self._places):
                raise InvalidClaim(at)
        goals = 1 << number_of(other, self._places)
        way = best_way(self._steps, number_of(claim, self._places), goals)
        return None if way is None else claims_about(self._regions, way)

    def least_patch(self, claims):
        """Return the least possible patch of which claims are true, None without one."""
        for patch in self.patches(claims):
            return patch
        return None

    def barred(self, claims):
        """Return the way that keeps claims from being true together, None if they can be."""
        numbers = self.numbers(claims)
        goals = together([contrary(number) for number in numbers])
        for number in numbers:
            way = best_way(self._steps, number, goals)
            if way is not None:
                return claims_about(self._regions, way)
        return None

    def patches(self, claims):
        """Generate all possible patches of which claims are true, rising."""
        waiting = [(0, self.led_to(self.numbers(claims)))]
        # Claims that do not clash are true of some patch: no branch is in vain.
        while waiting:
            at, settled = waiting.pop()
            if clash(settled):
                continue
            if at == len(self._regions):
                yield patch_of(self._regions, settled)
            else:
                waiting.append((at + 1, settled | self._reach[2 * at + 1]))
                waiting.append((at + 1, settled | self._reach[2 * at]))

    def count_patches(self):
        """Return the number of all possible patches."""
        if len(self._regions) > MOST_REGIONS_COUNTED:
            raise TooMany(MOST_REGIONS_COUNTED)
        many = 0
        for _ in self.patches([]):
            many = many + 1
        return many

    def places(self):
        """Return the place of each region in the order of the regions."""
        return dict(self._places)

    def steps(self):
        """Return, for each claim, those together that it leads to by a stated fact."""
        return list(self._steps)

    def numbers(self, claims):
        """Return claims as numbers, rising, each once, and refuse what are no claims."""
        if not isinstance(claims, list):
            raise InvalidClaim(None)
        for at, claim in enumerate(claims):
            if not is_claim(claim, self._places):
                raise InvalidClaim(at)
        return sorted({number_of(claim, self._places) for claim in claims})

    def led_to(self, numbers):
        """Return all claims together that ways lead to from some, these included."""
        settled = 0
        for number in numbers:
            settled = settled | self._reach[number]
        return settled

    def forced(self):
        """Return all claims together that are true of every possible patch."""
        claims = range(len(self._reach))
        return together([claim for claim in claims if (self._reach[contrary(claim)] >> claim) & 1])

    def least_among(self, choices):
        """Return the least possible patch of which one of several claims together is true.

        Each choice contains all that ways lead to from it, and no claim with its contrary.
        """
        for place in range(len(self._regions)):
            outside = self._reach[2 * place]
            inside = self._reach[2 * place + 1]
            lesser = sorted({choice | outside for choice in choices if not clash(choice | outside)})
            # A choice that cannot leave the region out lies in it wherever it is true.
            choices = lesser if lesser else sorted({choice | inside for choice in choices})
        return patch_of(self._regions, choices[0])

    def __contains__(self, x):
        if not is_fact(x, self._places):
            return False
        kind, one, other = x
        return clash(self.led_to(breaking(kind, self._places[one], self._places[other])))

    def __and__(self, other):
        if not isinstance(other, Facts) or self._regions != other._regions:
            raise InvalidRegion(None)
        known = {fact: True for fact in self._stated}
        facts = self._stated + [fact for fact in other._stated if fact not in known]
        if len(facts) > MOST_FACTS:
            raise TooMany(MOST_FACTS)
        return Facts(self._regions, facts)

    def __eq__(self, other):
        if not isinstance(other, Facts) or self._regions != other._regions:
            return False
        return self.following() == other.following()

    def _refuse_contradiction(self):
        """Raise an error, with the ways that show it, if the facts do not hold together."""
        for place in range(len(self._regions)):
            inside = 2 * place + 1
            outside = contrary(inside)
            if (self._reach[inside] >> outside) & (self._reach[outside] >> inside) & 1:
                there = best_way(self._steps, inside, 1 << outside)
                back = best_way(self._steps, outside, 1 << inside)
                raise Contradiction(claims_about(self._regions, there), claims_about(self._regions, back))
