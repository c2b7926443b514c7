"""Endings: least rows of parts that lead to final rooms, from one room or from two at once; and what can be edited."""

from pressalike.leasttrees import least, with_marks


def endings(grammar):
    """Return a dict from each (kind, (room, room)) to a least row of parts that leads from both rooms to final rooms.

    The lesser room stands first; pairs without such a row are left out. The grammar is a trimmed one.
    """
    pieces = {kind: least(grammar, kind, "") for kind in grammar.kinds}
    found = {}
    for kind in grammar.kinds:
        rows = _endings_of(grammar, kind, pieces)
        for rooms in rows:
            found[(kind, rooms)] = rows[rooms][1]
    return found


def joint_steps(grammar, kind, rooms):
    """Return a list of (kind, marks, target, target) of the parts that may follow in both rooms."""
    found = []
    for part, marks, target in grammar.steps(kind, rooms[0]):
        other = grammar.follow(kind, rooms[1], (part, marks))
        if other is not None:
            found.append((part, marks, target, other))
    return found


def both_rooms(one, two):
    """Return the pair of the rooms, the lesser one first."""
    return min(one, two), max(one, two)


def both_final(grammar, kind, rooms):
    """Tell whether both rooms are final."""
    return grammar.is_final(kind, rooms[0]) and grammar.is_final(kind, rooms[1])


def _endings_of(grammar, kind, pieces):
    """Return a dict from each pair of rooms to (cost, parts) of a least row."""
    many = grammar.rooms(kind)
    pairs = [(one, two) for two in range(many) for one in range(two + 1)]
    rows = {rooms: (0, ()) for rooms in pairs if both_final(grammar, kind, rooms)}
    steps = [(rooms,) + step for rooms in pairs for step in joint_steps(grammar, kind, rooms)]
    # A round settles the rows with one part more, and a least row has fewer parts than there are pairs.
    for _ in pairs:
        for rooms, part, marks, one, two in steps:
            target = both_rooms(one, two)
            if target in rows:
                piece = with_marks(pieces[part], marks)
                cost = piece.cost + rows[target][0]
                if rooms not in rows or cost < rows[rooms][0]:
                    rows[rooms] = (cost, (piece,) + rows[target][1])
    return rows


def holders(grammar, deed):
    """Return a dict whose keys are the kinds of the pieces of a trimmed grammar that may hold an edit of the deed."""
    ends = endings(grammar) if deed == "parts" else {}
    found = {kind: True for kind in grammar.kinds if _is_holder(grammar, kind, deed, ends)}
    # A proper ancestor of a holder is one, too; there are no more levels of kinds than kinds.
    for _ in grammar.kinds:
        for kind in grammar.kinds:
            if any([part in found for _, part, _, _ in _all_steps(grammar, kind)]):
                found[kind] = True
    return found


def _is_holder(grammar, kind, deed, ends):
    """Tell whether the deed can edit a piece of the kind that keeps its marks, or one of its parts."""
    if deed == "words":
        return grammar.has_blocks(kind)
    if deed == "parts":
        # The part of a step can be put in if one row of parts may follow with and without it.
        return any([(kind, both_rooms(room, target)) in ends for room, _, _, target in _all_steps(grammar, kind)])
    return deed == "marks"


def _all_steps(grammar, kind):
    return [(room,) + step for room in range(grammar.rooms(kind)) for step in grammar.steps(kind, room)]
