"""Lots: which changes of a style must be taken back."""

from pressalike.changes import all_lots, changed, checked_changes, checked_lot
from pressalike.joinedrows import least_unlike
from pressalike.reach import reach
from pressalike.setter import print_tree


class Lots:
    """The lots of a row of changes, and which of them are good; in this class all are."""

    def __init__(self, style, changes, grammar):
        self._style = style
        self._changes = checked_changes(style, changes)
        self._grammar = grammar.trimmed()
        lots = list(all_lots(len(self._changes)))
        self._witnesses = self._judged(lots)
        good = [lot for lot in self._witnesses if self._witnesses[lot] is None]
        self.good = tuple(good)
        self.least = tuple([lot for lot in good if not any([_is_proper_part(other, lot) for other in good])])
        self.turns = tuple([
            (lot, place) for lot in good for place in range(len(self._changes))
            if place not in lot and self._witnesses[tuple(sorted(lot + (place,)))] is not None
        ])

    @property
    def is_monotone(self):
        """Whether there is no turn."""
        return len(self.turns) == 0

    @property
    def fewest(self):
        """The first least lot, None if no lot is good."""
        return self.least[0] if self.least else None

    def is_good(self, lot):
        """Tell whether the lot is good."""
        return self.witness(lot) is None

    def witness(self, lot):
        """Return the witness of the lot, None if it is good."""
        return self._witnesses[self._checked(lot)]

    def mended(self, lot):
        """Return the style with the lot taken back."""
        return changed(self._style, self._changes, lot)

    def _checked(self, lot):
        return checked_lot(len(self._changes), lot)

    def _judged(self, lots):
        """Return a dict from each of the lots, in their order, to its witness, None if it is good."""
        return {lot: None for lot in lots}


def _is_proper_part(one, two):
    """Tell whether all places of lot one are places of lot two, and lot two has more."""
    return len(one) < len(two) and all([place in two for place in one])


class AlikeLots(Lots):
    """Lots for likeness: those with which every manuscript is printed as by the style without any change."""

    def __init__(self, style, changes, grammar):
        super().__init__(style, changes, grammar)

    def _judged(self, lots):
        compared = [(self._style, None)]
        witnesses = {}
        for lot in list(lots):
            mended = self.mended(lot)
            told = self._told_by(compared, mended)
            if told is None:
                told = (mended, least_unlike(mended, self._style, self._grammar))
                compared.append(told)
            witnesses[lot] = told[1]
        return witnesses

    def _told_by(self, compared, mended):
        """Return the first of the pairs (style, witness) whose witness serves for this style, None if none does."""
        for other, tree in compared:
            # A manuscript that shows one lot often shows others, too.
            if other == mended or (tree is not None and print_tree(mended, tree) != print_tree(self._style, tree)):
                return other, tree
        return None


class ReachLots(Lots):
    """Lots for reach: those with which no edit of the deed has more than `most` counted blocks."""

    def __init__(self, style, changes, grammar, deed, most=0):
        self.deed = deed
        self.most = most
        self._reaches = {}
        super().__init__(style, changes, grammar)

    def reach_of(self, lot):
        """Return the reach with the lot taken back, None if it is endless."""
        return self._reaches[self._checked(lot)]

    def _judged(self, lots):
        known = []
        witnesses, reaches = {}, {}
        for lot in list(lots):
            mended = self.mended(lot)
            told = _known_of(known, mended)
            if told is None:
                told = reach(mended, self._grammar, self.deed)
                known.append((mended, told))
            witnesses[lot] = self._witness_in(told)
            reaches[lot] = told.most
        self._reaches = reaches
        return witnesses

    def _witness_in(self, told):
        """Return the witness of a lot with this reach, None if the lot is good."""
        if told.is_endless:
            return told.sample(self.most + 1)
        return None if told.most <= self.most else (told.tree, told.edit)


def _known_of(known, style):
    """Return the reach of an equal style among the pairs (style, reach), None if there is none."""
    for other, told in known:
        if other == style:
            return told
    return None
