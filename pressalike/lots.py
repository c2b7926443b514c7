"""Lots: which changes of a style must be taken back."""

from pressalike.changes import all_lots, changed, checked_changes, checked_lot
from pressalike.joinedrows import least_unlike
from pressalike.reach import reach
from pressalike.setter import print_tree


class Lots:
    """The lots of a row of changes, and which of them are good; in this class all are."""

    def __init__(self, style, changes, grammar):
        self._style = style
        self._changes = checked_changes(style, changes)
        self._grammar = grammar.trimmed()
        self._witnesses = {}
        lots = list(all_lots(len(self._changes)))
        for lot in lots:
            self._witnesses[lot] = self._judged(lot)
        good = [lot for lot in self._witnesses if self._witnesses[lot] is None]
        self.good = tuple(good)
        self.least = tuple([lot for lot in good if not any([_is_proper_part(other, lot) for other in good])])
        self.turns = tuple([
            (lot, place) for lot in good for place in range(len(self._changes))
            if place not in lot and self._witnesses[tuple(sorted(lot + (place,)))] is not None
        ])

    @property
    def is_monotone(self):
        """Whether there is no turn."""
        return len(self.turns) == 0

    @property
    def fewest(self):
        """The first least lot, None if no lot is good."""
        return self.least[0] if self.least else None

    def is_good(self, lot):
        """Tell whether the lot is good."""
        return self.witness(lot) is None

    def witness(self, lot):
        """Return the witness of the lot, None if it is good."""
        return self._witnesses[self._checked(lot)]

    def mended(self, lot):
        """Return the style with the lot taken back."""
        return changed(self._style, self._changes, lot)

    def _checked(self, lot):
        return checked_lot(len(self._changes), lot)

    def _judged(self, lot):
        """Return the witness of the lot, None if it is good; the lots come in their order."""
        return None


def _is_proper_part(one, two):
    """Tell whether all places of lot one are places of lot two, and lot two has more."""
    return len(one) < len(two) and all([place in two for place in one])


class AlikeLots(Lots):
    """Lots for likeness: those with which every manuscript is printed as by the style without any change."""

    def __init__(self, style, changes, grammar):
        self._compared = []
        super().__init__(style, changes, grammar)

    def _judged(self, lot):
        mended = self.mended(lot)
        if mended == self._style:
            return None
        for other, tree in self._compared:
            # A manuscript that shows one lot often shows others, too.
            if other == mended or (tree is not None and print_tree(mended, tree) != print_tree(self._style, tree)):
                return tree
        tree = least_unlike(mended, self._style, self._grammar)
        self._compared.append((mended, tree))
        return tree


class ReachLots(Lots):
    """Lots for reach: those with which no edit of the deed has more than `most` counted blocks."""

    def __init__(self, style, changes, grammar, deed, most=0):
        self.deed = deed
        self.most = most
        self._reaches = {}
        self._known = []
        super().__init__(style, changes, grammar)

    def reach_of(self, lot):
        """Return the reach with the lot taken back, None if it is endless."""
        return self._reaches[self._checked(lot)]

    def _judged(self, lot):
        told = self._reach_with(self.mended(lot))
        self._reaches[lot] = told.most
        if told.is_endless:
            return told.sample(self.most + 1)
        return None if told.most <= self.most else (told.tree, told.edit)

    def _reach_with(self, style):
        for other, told in self._known:
            if other == style:
                return told
        told = reach(style, self._grammar, self.deed)
        self._known.append((style, told))
        return told
