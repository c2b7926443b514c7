"""Pairs of standings: what a piece does that is set from both of them."""

from pressalike.fronts import ends_of
from pressalike.leasttrees import least
from pressalike.outcomes import Outcomes, trimmed_with
from pressalike.standings import checked_standing


def pair_ends(style, grammar, kind, marks, context, one, two):
    """Return the list of all (ends, greatest number or None, piece) of a piece with this label, pairs first."""
    trimmed = trimmed_with(grammar, kind)
    checked_standing(style.length, one)
    checked_standing(style.length, two)
    pair = ends_of(one, two)
    if pair is None:
        return [(None, 0, least(trimmed, kind, marks))]
    told = Outcomes(style, trimmed, "", ("pair", kind, marks, context, pair))
    return [(end, number, told.example(end)) for end, number in told.numbers()]
