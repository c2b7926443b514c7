"""Seams: where the setter always arrives with one and the same standing, so that a manuscript can be cut there."""

from pressalike.contexts import with_elder
from pressalike.errors import NotOfGrammar


def gates_of(gates, tree):
    """Return the list of (path, gate) of all pieces of the manuscript in document order."""
    wrong = gates.grammar.judge(tree)
    if wrong is not None:
        raise NotOfGrammar(wrong)
    found = []
    todo = [((), tree, (0, tree.kind, tree.marks, gates.style.root_context()))]
    while todo:
        path, piece, gate = todo.pop()
        found.append((path, gate))
        if not piece.is_block:
            todo.extend(_parts_at_gates(gates, path, piece, gate[3])[::-1])
    return found


def _parts_at_gates(gates, path, piece, context):
    """Return the list of (path, part, gate) of the parts of a piece in this context."""
    below = gates.style.sheet.below(piece.kind, piece.marks, context, "")
    found = []
    room, elder = 0, ""
    for place in range(len(piece.parts)):
        part = piece.parts[place]
        found.append((path + (place,), part, (room, part.kind, part.marks, with_elder(below, elder))))
        room, elder = gates.grammar.follow(piece.kind, room, (part.kind, part.marks)), part.kind
    return found


def cuts(gates, tree):
    """Return the list of the cuts of the manuscript, ascending, and the number of its blocks behind them."""
    found = [0]
    before = 0
    for path, gate in gates_of(gates, tree):
        if gates.seam(gate) is not None and before > found[-1]:
            found.append(before)
        before += int(tree.piece_at(path).is_block)
    # A seam behind the last block is no cut.
    return [place for place in found if place == 0 or place < before] + [before]


def cut(gates, tree):
    """Return the list of the runs (first, stop) of the manuscript, in order."""
    places = cuts(gates, tree)
    return [(places[at], places[at + 1]) for at in range(len(places) - 1)]
