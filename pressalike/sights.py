"""Sights: what is seen of contexts when a piece is set.

Many contexts make no difference to what comes of a piece: no rule asks for this parent, say. Whoever goes
through all contexts goes through fewer of them by a `RuleSight`; a `Sight` leaves every context as it is.
"""

from pressalike.contexts import with_elder

_GONE = ("", "", "", 0, 1, True)
_LEFT_OUT = (0, 1, 0, False, False, True)


class Sight:
    """The values and contexts of pieces under a style."""

    def __init__(self, style):
        self.style = style
        self._known = {}

    def told(self, context):
        """Return what is seen of the context, as a context."""
        return context

    def elder(self, kind):
        """Return what the part behind a part of this kind sees of its elder."""
        return kind

    def set_in(self, kind, marks, context):
        """Return (values, context of a first part) of such a piece."""
        key = (kind, marks, self.told(context))
        if key not in self._known:
            below = self.told(self.style.sheet.below(kind, marks, key[2], ""))
            self._known[key] = (self._values(kind, marks, key[2]), below)
        return self._known[key]

    def part_context(self, below, elder):
        """Return what is seen of the context of a part with this elder beside such a first part."""
        return self.told(with_elder(below, elder))

    def _values(self, kind, marks, context):
        return self.style.sheet.values_of(kind, marks, context)


class RuleSight(Sight):
    """A sight in which contexts are equal if no rule and no print tells them apart."""

    def __init__(self, style):
        super().__init__(style)
        patterns = [rule.pattern for rule in style.sheet]
        self._parents = [pattern[2] for pattern in patterns]
        self._aboves = [pattern[3] for pattern in patterns]
        self._elders = [pattern[4] for pattern in patterns]
        self._last_face = 0 if style.face(0) == style.face(1) else 1

    def told(self, context):
        """Return the context without what nothing asks for."""
        parent, above, elder, face, measure, gone = context
        if gone:
            return _GONE
        seen = "".join([mark for mark in above if mark in self._aboves])
        return self._parent(parent), seen, self.elder(elder), min(face, self._last_face), measure, False

    def elder(self, kind):
        """Return the kind, "" if no rule asks for it as an elder."""
        return kind if kind in self._elders else ""

    def _parent(self, kind):
        return kind if kind in self._parents else ""

    def _values(self, kind, marks, context):
        values = super()._values(kind, marks, context)
        if values[5]:
            return _LEFT_OUT
        return (min(values[0], self._last_face),) + values[1:]
