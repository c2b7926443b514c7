"""Own parts: what an edit does to what it changes, and to the pieces that hold it."""

from pressalike.endings import holders
from pressalike.outcomes import Outcomes, trimmed_with
from pressalike.singles import twice_set
from pressalike.standings import checked_standing


def own_ends(style, grammar, kind, new, old):
    """Return the list of all (new standing, old standing, piece) of a piece set with new marks and with old ones.

    `new` and `old` are tuples (marks, context, standing); the piece has the new marks.
    """
    trimmed = trimmed_with(grammar, kind)
    checked_standing(style.length, new[2])
    checked_standing(style.length, old[2])
    return twice_set(style, trimmed, kind, new, old)


def edit_ends(style, grammar, deed, kind, marks, context, standing):
    """Return the list of all (ends, greatest number or None, piece, edit) of a piece that holds an edit."""
    trimmed = trimmed_with(grammar, kind)
    checked_standing(style.length, standing)
    if kind not in holders(trimmed, deed):
        return []
    told = Outcomes(style, trimmed, deed, ("edit", kind, marks, context, standing))
    return [(end, number) + told.example(end) for end, number in told.numbers()]
