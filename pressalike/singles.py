"""Single pieces: what a piece can leave behind it."""

from pressalike.building import Builder, piece_with
from pressalike.frontsearch import FrontSearch
from pressalike.outcomes import trimmed_with
from pressalike.standings import checked_standing


def single_ends(style, grammar, kind, marks, context, standing):
    """Return the list of all (standing, piece) that a piece of the grammar with this label leaves, each with one."""
    trimmed = trimmed_with(grammar, kind)
    checked_standing(style.length, standing)
    told = (marks, context, standing)
    rows = twice_set(style, trimmed, kind, told, told)
    return [(one, piece) for one, _, piece in rows]


def twice_set(style, grammar, kind, new, old):
    """Return the list of all (new standing, old standing, piece with the new marks) behind a piece that is set twice.

    The grammar is a trimmed one; `new` and `old` are triples (marks, context, standing).
    """
    search = FrontSearch(style, grammar)
    number = search.asked(("own", kind, new, old))
    builder = Builder(grammar, search.least_way)
    return [
        end + (piece_with(grammar, kind, new[0], builder.build((number, end))),)
        for end in sorted(list(search.ends[number]))
    ]
