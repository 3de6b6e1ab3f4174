"""Random facts, maps and rows, with a fixed seed, for the plain tests."""

import random

from tests import plain

REGIONS = ["r" + chr(97 + at) for at in range(24)]
COLOURS = ("red", "blue", "a")
KINDS = ("put", "fill", "wipe", "turn")


def some_facts(choice, regions, most):
    """Return facts about regions that hold together, each kept by a hidden patch."""
    hidden = [region for region in regions if choice.random() < 0.5]
    facts = []
    for _ in range(choice.randrange(most + 1)):
        fact = (choice.choice(plain.KINDS), choice.choice(regions), choice.choice(regions))
        if plain.keeps(hidden, fact):
            facts.append(fact)
    return facts


def some_deed(choice, regions, kinds=KINDS):
    """Return a deed of one of some kinds."""
    kind = choice.choice(kinds)
    if kind == "wipe":
        return kind, choice.choice(regions)
    return kind, choice.choice(COLOURS), choice.choice(COLOURS if kind == "turn" else regions)


def some_deeds(choice, regions, most, kinds=KINDS):
    """Return at most so many deeds."""
    return [some_deed(choice, regions, kinds) for _ in range(choice.randrange(most + 1))]


def some_patch(choice, regions):
    """Return a patch."""
    return [region for region in regions if choice.random() < 0.5]


def close_rows(choice, regions, most, kinds=KINDS):
    """Return two rows of deeds that differ little, so that some of them are alike."""
    one = some_deeds(choice, regions, most, kinds)
    other = list(one)
    for _ in range(choice.randrange(3)):
        at = choice.randrange(len(other) + 1)
        way = choice.randrange(3)
        if way == 0 and at < len(other):
            del other[at]
        elif way == 1:
            other.insert(at, some_deed(choice, regions, kinds))
        elif at + 1 < len(other):
            other[at], other[at + 1] = other[at + 1], other[at]
    return one, other


def many_facts(seed, many):
    """Return many random facts that a hidden patch keeps."""
    choice = random.Random(seed)
    hidden = [region for region in REGIONS if choice.random() < 0.5]
    facts = []
    while len(facts) < many:
        fact = (choice.choice(plain.KINDS), choice.choice(REGIONS), choice.choice(REGIONS))
        if plain.keeps(hidden, fact):
            facts.append(fact)
    return hidden, facts
