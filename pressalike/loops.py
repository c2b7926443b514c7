"""Loops: manuscripts in which an edit is felt further and further."""

from pressalike.endings import holders
from pressalike.errors import NotEndless
from pressalike.keptbook import KeptBook
from pressalike.outcomes import Outcomes
from pressalike.standings import TOP


def root_outcomes(style, grammar, deed):
    """Return the outcomes of all edits of the deed in manuscripts of the grammar, None if there is no such edit."""
    trimmed = grammar.trimmed()
    if trimmed.root not in holders(trimmed, deed):
        return None
    return Outcomes(style, trimmed, deed, ("edit", trimmed.root, "", style.root_context(), TOP), True)


def loop_samples(style, grammar, deed, many):
    """Yield so many tuples (manuscript, edit, number of its counted blocks), each with more than the one before it."""
    outcomes = root_outcomes(style, grammar, deed)
    if outcomes is None or not outcomes.lacks_most():
        raise NotEndless(deed)
    for times in range(1, many + 1):
        tree, edit = outcomes.pumped(times)
        yield tree, edit, KeptBook(style, tree).change(edit).behind
