"""Facts and rows as text."""

from coatrows.checks import LETTERS, MOST_LETTERS, check_regions, is_name, places_of
from coatrows.claims import BROKEN_BY
from coatrows.errors import InvalidFact, InvalidText, TooMany
from coatrows.facts import Facts, is_fact
from coatrows.rows import MOST_DEEDS, Row

NO_DEEDS = "-"

# The word between the two names of each kind of deeds, but a wipe.
WORDS = {"put": "on", "fill": "under", "turn": "to"}
KINDS = {"on": "put", "under": "fill", "to": "turn"}


def fact_text(fact):
    """Return the text of a fact."""
    names = [name for name in fact[1:] if is_name(name)] if isinstance(fact, tuple) else []
    if not is_fact(fact, places_of(names)):
        raise InvalidFact(0)
    kind, one, other = fact
    return f"{one} {kind} {other}"


def fact_of(line):
    """Return the fact that a text tells, None if something, whatever it is, has not three words."""
    words = line.split(" ") if isinstance(line, str) else []
    return (words[1], words[0], words[2]) if len(words) == 3 else None


def read_facts(regions, lines):
    """Return the facts of a list of their texts."""
    check_regions(regions)
    if not isinstance(lines, list):
        raise InvalidFact(None)
    # What tells no fact about the regions is refused there, at its index, and so are too many lines.
    return Facts(regions, [fact_of(line) for line in lines])


def deed_text(deed):
    """Return the text of a deed."""
    if deed[0] == "wipe":
        return f"wipe {deed[1]}"
    return f"{deed[1]} {WORDS[deed[0]]} {deed[2]}"


def row_text(row):
    """Return the text of a row."""
    return "; ".join([deed_text(deed) for deed in row.deeds()]) if len(row) else NO_DEEDS


def deed_of(words):
    """Return the deed that words tell, None if they tell none, or not yet a whole one."""
    if "" in words:
        return None
    if len(words) == 2 and words[0] == "wipe":
        return "wipe", words[1]
    if len(words) == 3:
        return KINDS[words[1]], words[0], words[2]
    return None


def may_grow(words, sign):
    """Tell whether a letter may stand behind the words of a deed, the last one of them in the making."""
    last = words[-1] + sign
    if sign not in LETTERS or len(last) > MOST_LETTERS:
        return False
    # A second word is the region of a wipe, or a word between two names.
    if len(words) != 2 or words[0] == "wipe":
        return True
    return any([word.startswith(last) for word in KINDS])


def may_follow(words, sign):
    """Tell whether a sign may stand behind the words of a deed, none behind a semicolon."""
    if not words:
        return sign == " "
    if sign == ";":
        return deed_of(words) is not None
    if sign == " ":
        return words[-1] in KINDS if len(words) == 2 else len(words) == 1 and words[0] != ""
    return may_grow(words, sign)


def words_behind(words, sign):
    """Return the words of the deed that is in the making behind a sign."""
    if sign == ";":
        return []
    if sign == " ":
        return words + [""]
    return words[:-1] + [words[-1] + sign]


def read_deeds(text):
    """Return the deeds of the text of a row that has some."""
    words = [""]
    deeds = []
    for column, sign in enumerate(text):
        if not may_follow(words, sign):
            raise InvalidText(column)
        if sign == ";":
            deeds.append(deed_of(words))
        words = words_behind(words, sign)
    if deed_of(words) is None:
        raise InvalidText(len(text))
    return deeds + [deed_of(words)]


def read_row(text):
    """Return the row of a text."""
    if not isinstance(text, str):
        raise InvalidText(None)
    if text.startswith(NO_DEEDS):
        if text != NO_DEEDS:
            raise InvalidText(len(NO_DEEDS))
        return Row([])
    deeds = read_deeds(text)
    if len(deeds) > MOST_DEEDS:
        raise TooMany(MOST_DEEDS)
    return Row(deeds)
