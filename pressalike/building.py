"""Pieces and edits that are made by the ways that a search has found."""

from pressalike.edits import Marks, Put, Words
from pressalike.pieces import Block, Inner


def piece_with(grammar, kind, marks, inside):
    """Return the piece with this label and with these words or parts."""
    return Block(kind, marks, inside) if grammar.has_blocks(kind) else Inner(kind, marks, inside)


def edit_with(piece, told):
    """Return the edit of the piece that is told as a tuple (deed, path, thing)."""
    deed, path, thing = told
    if deed == "words":
        return Words(path, thing)
    if deed == "put":
        return Put(path, thing)
    return Marks(path, piece.piece_at(path).marks if deed == "same" else thing)


def kids_of_way(item, way):
    """Return the list of the items and arcs to which a way of the item leads."""
    at, goal = item
    if way[0] == "leaf":
        return []
    if way[0] == "part":
        return [way[2:]]
    return ([(at, way[1])] if way[0] == "on" else []) + [(way[1], goal)]


class Builder:
    """Makes what stands inside of pieces: words or parts, with an edit where one is held.

    `chosen` tells the way that is taken for each item and each arc. An arc makes a pair of a step and the inside of its
    part.
    """

    def __init__(self, grammar, chosen):
        self._grammar = grammar
        self._chosen = chosen
        self._known = {}

    def build(self, goal):
        """Return what is made of the item or the arc by the chosen ways."""
        chosen = self._chosen
        todo = [goal]
        while todo:
            item = todo[-1]
            way = chosen(item)
            missing = [kid for kid in kids_of_way(item, way) if kid not in self._known]
            if missing and item not in self._known:
                todo.extend(missing)
            else:
                todo.pop()
                self._known[item] = self.build_by(way, [self._known[kid] for kid in kids_of_way(item, way)])
        return self._known[goal]

    def build_by(self, way, made):
        """Return what the way makes of what its kids have made."""
        if way[0] == "leaf":
            return way[1]
        if way[0] == "part":
            return way[1], made[0]
        return made[0] if way[0] == "as" else self._joined(made[0][0], made[0][1], made[1])

    def _joined(self, step, part, behind):
        """Return what becomes of the step with the inside of its part and with what stands behind."""
        how, kind, marks, more = step[:4]
        held = None
        if how == "holds":
            part, held = part
        piece = piece_with(self._grammar, kind, marks, part)
        if how == "put":
            return behind, ("put", (0,), piece)
        if how == "ahead":
            parts, (deed, path, thing) = behind
            return (piece,) + parts, (deed, (path[0] + 1,) + path[1:], thing)
        if how == "marks":
            return (piece,) + behind, ("marks", (0,), more)
        if how == "holds":
            return (piece,) + behind, (held[0], (0,) + held[1], held[2])
        return (piece,) + behind
