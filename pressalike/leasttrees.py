"""Least pieces and least rows of parts of a grammar.

A row is compared by its cost and then by its string: the texts of its parts
with one blank between two, and "}" behind the last. A part costs at least 1,
so no least row comes to a room twice, and no least piece contains another
one of its kind.
"""

from pressalike.checks import is_integer_from
from pressalike.errors import BadGrammar
from pressalike.pieces import Block, Inner
from pressalike.treetext import write_tree


def least(grammar, kind, marks):
    """Return the least complete piece with this label."""
    pieces = _least_pieces(grammar)
    if kind not in pieces:
        raise BadGrammar(kind)
    return with_marks(pieces[kind], marks)


def front(grammar, kind, room):
    """Return the least parts that lead from room 0 of the kind to the room."""
    rows = _least_rows(grammar, kind, [room], _least_pieces(grammar))
    if not is_integer_from(room, 0, grammar.rooms(kind) - 1) or 0 not in rows:
        raise BadGrammar(kind)
    return rows[0][2]


def rest(grammar, kind, room):
    """Return the least parts that lead from the room to a final room of the kind."""
    rows = _least_rows(grammar, kind, _finals(grammar, kind), _least_pieces(grammar))
    if room not in rows:
        raise BadGrammar(kind)
    return rows[room][2]


def _finals(grammar, kind):
    return [room for room in range(grammar.rooms(kind)) if grammar.is_final(kind, room)]


def with_marks(piece, marks):
    """Return the piece with these marks in place of its own."""
    if piece.is_block:
        return Block(piece.kind, marks, piece.words)
    return Inner(piece.kind, marks, piece.parts)


def _least_pieces(grammar):
    """Return a dict with the least piece without marks of each kind that is not endless."""
    pieces = {kind: Block(kind, "") for kind in grammar.kinds if grammar.has_blocks(kind)}
    # A round settles the pieces one level deeper; the kinds from top to bottom are all unlike.
    for _ in grammar.kinds:
        for kind in grammar.kinds:
            rows = _least_rows(grammar, kind, _finals(grammar, kind), pieces)
            if 0 in rows:
                pieces[kind] = Inner(kind, "", rows[0][2])
    return pieces


def _least_rows(grammar, kind, goals, pieces):
    """Return a dict with (cost, string, parts) of the least row from each room to a goal."""
    rows = {goal: (0, "}", ()) for goal in goals}
    many = grammar.rooms(kind)
    # A round settles the rows with one part more, and a least row has fewer parts than there are rooms.
    for _ in range(many):
        for room in range(many):
            for part, marks, target in grammar.steps(kind, room):
                if part in pieces and target in rows:
                    row = _row_with(with_marks(pieces[part], marks), rows[target])
                    if room not in rows or row[:2] < rows[room][:2]:
                        rows[room] = row
    return rows


def _row_with(piece, row):
    """Return the row with the piece in front."""
    cost, string, parts = row
    between = " " if parts else ""
    return piece.cost + cost, write_tree(piece) + between + string, (piece,) + parts
