"""Fronts: how far pieces have been read whose parts, or words, are set twice.

A front is a tuple; its first member tells what it is:
- ("own", kind, below, below, room, elder, standing, standing): the parts of one piece are set with new marks,
  contexts and standings and with old ones; the new ones come first;
- ("pair", kind, below, rooms, elder, pair): parts behind an edit are set from a pair of standings, and lead
  on from one room in the one manuscript and from one in the other;
- ("edit", kind, below, room, elder, standing): the edit still lies ahead, among the parts to come;
- ("put", kind, below, rooms, elders, standing, standing): a piece has just been put in; what is old comes first, or
  what is lesser if the elders are equal;
- ("rest", kind, rooms): the standings are equal, so it does not matter which parts follow.
`below` is the context of a first part. What stands inside of a piece is told by the front ahead of its first
part, or by one of these:
- ("words", values, values, standing, standing), ("pairwords", values, pair), ("editwords", values, standing):
  the words of a block;
- ("least", kind, end): whatever stands inside, this end follows;
- ("same", kind, front): an edit that gives the piece its own marks again, or one of the front, if it is not None.

An end is what follows behind: two standings, told in the same order, where a piece is set with new and old
marks; otherwise a pair, or None if the standings are equal.

A request asks for the inside of a piece: ("own", kind, new, old) with triples (marks, context, standing), likewise
("both", kind, new, old) if it does not matter which of the standings behind is the new one; ("pair", kind, marks,
context, pair) or ("edit", kind, marks, context, standing).

Fronts do not tell a Put from the Drop that takes the piece out again, nor a Marks from the one that takes it
back: what follows behind is the same.
"""

from pressalike.endings import both_final, both_rooms, endings, holders, joint_steps
from pressalike.standings import TOP


def ends_of(one, two):
    """Return the ends of two standings: None if they are equal, otherwise the pair."""
    return None if one == two else (min(one, two), max(one, two))


def behind_part(how, front, end):
    """Return the front behind a part with this end; `how` and `front` are those of a step."""
    if how == "own":
        return front + end
    if how == "ahead":
        return front + end[:1]
    if how == "put":
        return _put_front(front, end[0])
    # Two standings need not be in order, and can be equal, where a part is set with new and old marks.
    ends = None if end is None else ends_of(end[0], end[1])
    return ("rest", front[1], front[3]) if ends is None else front + (ends,)


def _put_front(front, new):
    """Return the front behind a piece put in that leaves this standing; `front` has the old standing at its end."""
    sort, kind, below, rooms, elders, old = front
    if elders[0] != elders[1]:
        return front + (new,)
    # What follows is set in the same contexts.
    ends = ends_of(old, new)
    rooms = both_rooms(rooms[0], rooms[1])
    return ("rest", kind, rooms) if ends is None else (sort, kind, below, rooms, elders) + ends


class Fronts:
    """The insides and fronts of one style, grammar and deed; without a deed no edit is asked for.

    A step of a front is a tuple (how, kind, marks, marks, request, front): a part with this label may follow, its
    second marks being those that an edit gives it; what it does is asked for by the request, and `behind_part` tells
    the front behind it.
    """

    def __init__(self, sight, grammar, deed=""):
        self.sight = sight
        self.grammar = grammar
        self.deed = deed
        # These also tell from which two rooms one row of parts can lead to the end.
        self.endings = endings(grammar)
        # The kinds of the pieces that may hold an edit of the deed.
        self.holders = holders(grammar, deed)

    def inside(self, request):
        """Return the inside that the request asks for; an edit is asked for only where the kind may hold one."""
        sort, kind = request[:2]
        if sort == "both" and self._are_like(kind, request[2], request[3]):
            marks, context, standing = request[2]
            pair = ends_of(standing, request[3][2])
            return ("least", kind, None) if pair is None else self._pair_inside(kind, marks, context, pair)
        if sort in ("own", "both"):
            return self._own_inside(kind, request[2], request[3])
        if sort == "pair":
            return self._pair_inside(kind, request[2], request[3], request[4])
        return self._edit_inside(kind, request[2], request[3], request[4])

    def _are_like(self, kind, new, old):
        """Tell whether these marks and contexts make no difference to what stands inside."""
        first, below_new = self.sight.set_in(kind, new[0], new[1])
        second, below_old = self.sight.set_in(kind, old[0], old[1])
        if self.grammar.has_blocks(kind):
            return first == second
        return first[4:] == second[4:] and below_new == below_old

    def _own_inside(self, kind, new, old):
        first, below_new = self.sight.set_in(kind, new[0], new[1])
        second, below_old = self.sight.set_in(kind, old[0], old[1])
        if first[5] and second[5]:
            return "least", kind, (new[2], old[2])
        if self.grammar.has_blocks(kind):
            return "words", first, second, new[2], old[2]
        return "own", kind, below_new, below_old, 0, "", _entered(first, new[2]), _entered(second, old[2])

    def _pair_inside(self, kind, marks, context, pair):
        values, below = self.sight.set_in(kind, marks, context)
        if values[5] or values[4]:
            return "least", kind, (pair if values[5] else None)
        if self.grammar.has_blocks(kind):
            return "pairwords", values, pair
        return "pair", kind, below, (0, 0), "", pair

    def _edit_inside(self, kind, marks, context, standing):
        values, below = self.sight.set_in(kind, marks, context)
        if self.grammar.has_blocks(kind):
            return ("same", kind, None) if self.deed == "marks" else ("editwords", values, standing)
        front = ("edit", kind, below, 0, "", _entered(values, standing))
        return ("same", kind, front) if self.deed == "marks" else front

    def last_ends(self, front):
        """Return the ends that follow if no part follows: a list with one of them or none."""
        sort, kind = front[:2]
        if sort == "own":
            return [front[6:]] if self.grammar.is_final(kind, front[4]) else []
        if sort == "edit" or not both_final(self.grammar, kind, front[3]):
            return []
        return [front[5] if sort == "pair" else ends_of(front[5], front[6])]

    def steps(self, front):
        """Return the list of the steps of the front."""
        if front[0] == "own":
            return self._own_steps(front)
        if front[0] == "pair":
            return self._pair_steps(front)
        return self._edit_steps(front) if front[0] == "edit" else self._put_steps(front)

    def _own_steps(self, front):
        _, kind, new, old, room, elder, standing_new, standing_old = front
        contexts = (self.sight.part_context(new, elder), self.sight.part_context(old, elder))
        found = []
        for part, marks, target in self.grammar.steps(kind, room):
            request = ("own", part, (marks, contexts[0], standing_new), (marks, contexts[1], standing_old))
            behind = ("own", kind, new, old, target, self.sight.elder(part))
            found.append(("own", part, marks, marks, request, behind))
        return found

    def _pair_steps(self, front):
        _, kind, below, rooms, elder, pair = front
        context = self.sight.part_context(below, elder)
        return [
            ("pair", part, marks, marks, ("pair", part, marks, context, pair), behind)
            for part, marks, behind in self._both_go_on(kind, below, rooms)
        ]

    def _both_go_on(self, kind, below, rooms):
        """Return a list of (kind, marks, pair front without its pair) for all parts that may follow in both rooms."""
        return [
            (part, marks, self._pair_front(kind, below, one, two, part))
            for part, marks, one, two in joint_steps(self.grammar, kind, rooms)
            if self._can_end(kind, one, two)
        ]

    def _pair_front(self, kind, below, one, two, part):
        return "pair", kind, below, both_rooms(one, two), self.sight.elder(part)

    def _can_end(self, kind, one, two):
        return (kind, both_rooms(one, two)) in self.endings

    def _edit_steps(self, front):
        _, kind, below, room, elder, standing = front
        context = self.sight.part_context(below, elder)
        found = []
        for part, marks, target in self.grammar.steps(kind, room):
            told = (marks, context, standing)
            single = ("own", part, told, told)
            behind = ("edit", kind, below, target, self.sight.elder(part))
            found.append(("ahead", part, marks, marks, single, behind))
            if part in self.holders:
                behind = self._pair_front(kind, below, target, target, part)
                found.append(("holds", part, marks, marks, ("edit", part) + told, behind))
            if self.deed == "parts" and self._can_end(kind, room, target):
                behind = ("put", kind, below, (room, target), (elder, self.sight.elder(part)), standing)
                found.append(("put", part, marks, marks, single, behind))
        return found + (self._marks_steps(front, context) if self.deed == "marks" else [])

    def _marks_steps(self, front, context):
        """Return the steps in which a part gets other marks."""
        _, kind, below, room, _, standing = front
        steps = self.grammar.steps(kind, room)
        return [
            ("marks", part, old, new, ("both", part, (new, context, standing), (old, context, standing)),
             self._pair_front(kind, below, one, two, part))
            for part, old, one in steps
            for other, new, two in steps
            if other == part and old < new and self._can_end(kind, one, two)
        ]

    def _put_steps(self, front):
        _, kind, below, rooms, elders, standing_old, standing_new = front
        old = (self.sight.part_context(below, elders[0]), standing_old)
        new = (self.sight.part_context(below, elders[1]), standing_new)
        return [
            ("behind", part, marks, marks, ("both", part, (marks,) + new, (marks,) + old), behind)
            for part, marks, behind in self._both_go_on(kind, below, rooms)
        ]


def _entered(values, standing):
    """Return the standing at the beginning of the first part of a piece with these values."""
    return TOP if values[4] and not values[5] else standing
