"""Gates: where the pieces of manuscripts stand, and with which standings the setter arrives there."""

from heapq import heappop, heappush

from pressalike.building import Builder, piece_with
from pressalike.contexts import parts_cost
from pressalike.endings import endings
from pressalike.frontsearch import FrontSearch
from pressalike.leasttrees import least, with_marks
from pressalike.pieces import Inner
from pressalike.sights import Sight
from pressalike.standings import TOP


class Gates:
    """All gates of a style and a grammar, each with its arrivals."""

    def __init__(self, style, grammar):
        self.style = style
        self.grammar = grammar
        self._search = GateSearch(style, grammar.trimmed())
        self._arrivals = {}
        for gate, standing in sorted(list(self._search.found)):
            self._arrivals.setdefault(gate, []).append(standing)
        self._gates = tuple(list(self._arrivals))

    def arrivals(self, gate):
        """Return the list of the arrivals of the gate, ascending; [] if it does not occur."""
        return list(self._arrivals.get(gate, []))

    def shown(self, gate, standing):
        """Return (manuscript, path) of least cost with the gate and the arrival, None if there is none."""
        if standing not in self._arrivals.get(gate, []):
            return None
        return self._search.manuscript(gate, standing)

    def seam(self, gate):
        """Return the only arrival of a seam, None for any other gate."""
        arrivals = self._arrivals.get(gate, [])
        return arrivals[0] if len(arrivals) == 1 and arrivals[0][2] == 0 else None

    def __iter__(self):
        return iter(self._gates)

    def __len__(self):
        return len(self._gates)


class GateSearch:
    """A search through all fronts (kind, context of a first part, room, elder, standing) of the inner pieces.

    The cost of a front is that of all that stands ahead of it, of the pieces that it lies in, and of the least parts
    behind these. A way to a front is ("begin", marks of the piece that begins there, front around it, room behind it)
    or ("behind", front ahead, (kind, marks, number, end) of the part between the two).
    """

    def __init__(self, style, grammar):
        self._grammar = grammar
        self._sight = Sight(style)
        self._singles = FrontSearch(style, grammar)
        self._builder = Builder(grammar, self._singles.least_way)
        self._endings = endings(grammar)
        self._least = {kind: least(grammar, kind, "") for kind in grammar.kinds}
        self._ways = {}
        self._queue = []
        self._pushed = 0
        # For each (gate, arrival): (least cost, front ahead of the piece, room behind it); no front for the root.
        self.found = {}
        self._arrive(0, ((0, grammar.root, "", style.root_context()), TOP), None, None)
        while self._queue:
            cost, _, front, way = heappop(self._queue)
            if front not in self._ways:
                self._ways[front] = way
                for step in self._grammar.steps(front[0], front[2]):
                    self._go_on(cost, front, step)

    def manuscript(self, gate, standing):
        """Return (manuscript, path) of least cost with the gate and the arrival."""
        piece, path = with_marks(self._least[gate[1]], gate[2]), ()
        _, front, room = self.found[(gate, standing)]
        while front is not None:
            ahead, way = self._parts_ahead(front)
            _, marks, around, room_around = way
            piece = Inner(front[0], marks, ahead + (piece,) + self._parts_behind(front[0], room))
            path = (len(ahead),) + path
            front, room = around, room_around
        return piece, path

    def _parts_behind(self, kind, room):
        return self._endings[(kind, (room, room))]

    def _parts_ahead(self, front):
        """Return (parts ahead of the front, way to the beginning of the piece)."""
        parts = []
        way = self._ways[front]
        while way[0] == "behind":
            kind, marks, number, end = way[2]
            parts.append(piece_with(self._grammar, kind, marks, self._builder.build((number, end))))
            way = self._ways[way[1]]
        return tuple(parts[::-1]), way

    def _push(self, cost, front, way):
        if front not in self._ways:
            # The number keeps the queue from comparing what stands behind it.
            self._pushed += 1
            heappush(self._queue, (cost, self._pushed, front, way))

    def _arrive(self, cost, told, front, room):
        """Note the gate and the standing ahead of it, and enter the piece; `told` is the pair of the two."""
        gate, standing = told
        _, kind, marks, context = gate
        values, below = self._sight.set_in(kind, marks, context)
        arrival = TOP if values[4] and not values[5] else standing
        whole = cost + self._least[kind].cost
        if (gate, arrival) not in self.found or whole < self.found[(gate, arrival)][0]:
            self.found[(gate, arrival)] = (whole, front, room)
        if not self._grammar.has_blocks(kind):
            self._push(cost + 1, (kind, below, 0, "", arrival), ("begin", marks, front, room))

    def _go_on(self, cost, front, step):
        """Go on with a part that may follow in the front: enter it, and go on behind it."""
        kind, below, room, elder, standing = front
        part, marks, target = step
        context = self._sight.part_context(below, elder)
        around = cost + parts_cost(self._parts_behind(kind, target))
        self._arrive(around, ((room, part, marks, context), standing), front, target)
        told = (marks, context, standing)
        number = self._singles.asked(("own", part, told, told))
        for end in list(self._singles.ends[number]):
            behind = (kind, below, target, part, end[0])
            beside = cost + 1 + self._singles.least_cost((number, end))
            self._push(beside, behind, ("behind", front, (part, marks, number, end)))
