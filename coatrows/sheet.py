"""A sheet that is painted."""

from coatrows.checks import check_first
from coatrows.errors import InvalidDeed, InvalidFact, NothingToUndo, TooMany, UnknownRegion
from coatrows.facts import MOST_FACTS, Facts, is_fact
from coatrows.outcomes import colours_on
from coatrows.rows import Row, check_known


class Trial:
    """One `with` block, at whose end a sheet is as it was when the block began."""

    def __init__(self, sheet):
        self._sheet = sheet
        self._things = []
        self._facts = None

    def __enter__(self):
        self._things = self._sheet._things
        self._facts = self._sheet._facts
        return self._sheet

    def __exit__(self, kind, value, trace):
        sheet = self._sheet
        sheet._things = self._things
        sheet._facts = self._facts


class Sheet:
    """A sheet, blank at first, that is painted.

    The lists and objects that it keeps are never changed, only replaced: so what
    was read from it and what a trial keeps stay as they are.
    """

    def __init__(self, facts):
        self._facts = facts
        self._things = []

    @property
    def row(self):
        """The row of all deeds done."""
        return Row([deed for thing in self._things for deed in thing])

    @property
    def facts(self):
        """The facts now."""
        return self._facts

    def undo(self):
        """Take back the last thing that was done."""
        if not self._things:
            raise NothingToUndo()
        self._things = self._things[:-1]

    def trial(self):
        """Return an object for one `with` block, at whose end the sheet is as it was."""
        return Trial(self)

    def tried(self, row):
        """Return what the regions could show, in their order, if the deeds of a row were done now."""
        longer = self._followed_by(row)
        return [colours_on(self._facts, longer, [(region, True)], None) for region in self._facts.regions()]

    def learn(self, fact):
        """State one fact more."""
        if not is_fact(fact, self._facts.places()):
            raise InvalidFact(0)
        stated = self._facts.stated()
        if len(stated) >= MOST_FACTS:
            raise TooMany(MOST_FACTS)
        self._facts = Facts(self._facts.regions(), stated + [fact])

    def __getitem__(self, at):
        self._check_region(at)
        return colours_on(self._facts, self.row, [(at, True)], None)

    def __setitem__(self, at, worth):
        self._check_region(at)
        check_first(worth)
        self._do(Row([("wipe", at) if worth is None else ("put", worth, at)]))

    def __iadd__(self, other):
        self._do(other)
        return self

    def __iter__(self):
        raise TypeError("a sheet is not looped over: loop over the regions of its facts")

    def _check_region(self, region):
        """Refuse what is not a region of the facts."""
        if not isinstance(region, str) or region not in self._facts.places():
            raise UnknownRegion(region)

    def _followed_by(self, row):
        """Return the row of all deeds done and those of a row behind them."""
        if not isinstance(row, Row):
            raise InvalidDeed(None)
        check_known(row, self._facts.places())
        return self.row + row

    def _do(self, row):
        """Do the deeds of a row as one thing."""
        self._followed_by(row)
        self._things = self._things + [row.deeds()]
