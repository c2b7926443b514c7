"""The reach of a deed: how many blocks behind an edit can be set from another standing than before."""

from pressalike.errors import NoRank, NotEndless
from pressalike.greatest import MOST_SHOWN
from pressalike.loops import root_outcomes
from pressalike.rankrows import rank_rows


def reach(style, grammar, deed):
    """Return the Reach of the deed."""
    return Reach(style, grammar, deed)


class Reach:
    """The greatest number of counted blocks of all edits of a deed, and what has it."""

    def __init__(self, style, grammar, deed):
        self.deed = deed
        self._style = style
        self._outcomes = root_outcomes(style, grammar, deed)
        self._has_most = self._outcomes is None or not self._outcomes.lacks_most()
        rows = self._outcomes.numbers() if self._outcomes is not None and self._has_most else []
        self.most = max([0] + [number for _, number in rows]) if self._has_most else None
        self.tree = self.edit = None
        for end, number in rows:
            if number == self.most and number <= MOST_SHOWN:
                self.tree, self.edit = self._outcomes.example(end)

    @property
    def is_endless(self):
        """Whether there is no greatest number."""
        return not self._has_most

    def sample(self, number):
        """Return (manuscript, edit) with at least so many counted blocks."""
        if self._has_most:
            raise NotEndless(self.deed)
        return self._outcomes.pumped(number)

    def ranks(self):
        """Return the list of all rank rows."""
        if not self._has_most:
            raise NoRank(self.deed)
        return [] if self._outcomes is None else rank_rows(self._style, self._outcomes)
