"""Summaries of two styles and a grammar: what each piece does to the joint standing ahead of it."""

from heapq import heappop, heappush

from pressalike.contexts import parts_cost, with_elder
from pressalike.joint import PARTED, joint_begin, joint_page
from pressalike.jointtext import check_faces, filled_texts, texts_behind
from pressalike.leasttrees import rest
from pressalike.pens import text_cost
from pressalike.pieces import Block, Inner


def summaries(one, two, grammar):
    """Return a dict from each key to a dict from each joint standing behind it to (least cost, such a piece)."""
    check_faces(one, two)
    search = Search(one, two, grammar.trimmed())
    return search.run()


class Search:
    """A search for all keys that are needed, and for the least piece of each key and joint standing behind.

    Keys whose pieces may have the same inside (parts or words) and do the same with it share a node: a
    tuple (kind, values or contexts below in both styles, joint standing). A front (room, elder, joint
    standing) of a node is what the first parts inside leave; its room is None behind the whole inside.

    Fronts are taken up by their costs. One that is asked for late is cheaper than what is taken up at
    that time, so it catches up, and each front is first taken up with its least cost.
    """

    def __init__(self, one, two, grammar):
        self._one = one
        self._two = two
        self._grammar = grammar
        self._nodes = {}
        # For each node, the least (cost, inside) of each joint standing behind it that has been found.
        self._insides = {}
        # For each node, the fronts that go on behind it: (kind, marks, cost, node, room, parts).
        self._users = {}
        self._texts = {}
        self._pieces = {}
        self._least = {}
        self._queue = []
        self._pushed = 0

    def run(self):
        """Return the summaries."""
        self._ask((self._grammar.root, "", self._one.root_context(), self._two.root_context(), joint_begin()))
        while self._queue:
            cost, _, node, front, inside = heappop(self._queue)
            if cost == self._least[(node, front)]:
                if front[0] is None:
                    self._end(cost, node, front[2], inside)
                else:
                    self._go_on(cost, node, front, inside)
        return {key: self._row(key) for key in self._nodes}

    def _row(self, key):
        """Return the dict from each joint standing behind the key to (cost, piece)."""
        node = self._nodes[key]
        found = self._insides[node]
        return {behind: (found[behind][0], self._piece(key[0], key[1], node, behind)) for behind in found}

    def _piece(self, kind, marks, node, behind):
        """Return the least piece with this label that has an inside of the node and leaves this behind."""
        told = (marks, node, behind)
        if told not in self._pieces:
            inside = self._insides[node][behind][1]
            is_block = self._grammar.has_blocks(kind)
            self._pieces[told] = Block(kind, marks, inside) if is_block else Inner(kind, marks, inside)
        return self._pieces[told]

    def _push(self, cost, node, front, inside):
        if self._is_less(cost, node, front):
            self._least[(node, front)] = cost
            # The number keeps the queue from comparing what stands behind it.
            self._pushed += 1
            heappush(self._queue, (cost, self._pushed, node, front, inside))

    def _is_less(self, cost, node, front):
        return (node, front) not in self._least or cost < self._least[(node, front)]

    def _ask(self, key):
        """Return the node of the key; push its first fronts if it is new."""
        if key not in self._nodes:
            kind, marks, context_one, context_two, ahead = key
            first = self._one.sheet.values_of(kind, marks, context_one)
            second = self._two.sheet.values_of(kind, marks, context_two)
            if self._grammar.has_blocks(kind):
                self._nodes[key] = (kind, first, second, ahead)
            else:
                inside = joint_page(ahead, first[4] and not first[5], second[4] and not second[5])
                below_one = self._one.sheet.below(kind, marks, context_one, "")
                below_two = self._two.sheet.below(kind, marks, context_two, "")
                self._nodes[key] = (kind, below_one, below_two, inside)
            self._begin(self._nodes[key])
        return self._nodes[key]

    def _begin(self, node):
        """Push the first fronts of the node if it is new."""
        if node in self._insides:
            return
        self._insides[node] = {}
        self._users[node] = []
        kind, first, second, joint = node
        if not self._grammar.has_blocks(kind):
            self._push(1, node, (0, "", joint), ())
            return
        if (first, second) not in self._texts:
            self._texts[(first, second)] = filled_texts(self._one, self._two, first, second)
        lengths = (self._one.length, self._two.length)
        for behind, words in texts_behind(lengths, joint, self._texts[(first, second)], first, second).items():
            self._push(1 + text_cost(words), node, (None, "", behind), words)

    def _go_on(self, cost, node, front, parts):
        """Go on behind the first parts of a piece."""
        room, elder, joint = front
        kind, below_one, below_two, _ = node
        if joint == PARTED:
            behind = rest(self._grammar, kind, room)
            self._push(cost + parts_cost(behind), node, (None, "", PARTED), parts + behind)
            return
        if self._grammar.is_final(kind, room):
            self._push(cost, node, (None, "", joint), parts)
        contexts = (with_elder(below_one, elder), with_elder(below_two, elder))
        for part, marks, target in self._grammar.steps(kind, room):
            below = self._ask((part, marks) + contexts + (joint,))
            user = (part, marks, cost, node, target, parts)
            self._users[below].append(user)
            for behind in self._insides[below]:
                self._add(user, below, behind)

    def _end(self, cost, node, behind, inside):
        """Note the inside, and let all users of the node go on behind it."""
        self._insides[node][behind] = (cost, inside)
        for user in self._users[node]:
            self._add(user, node, behind)

    def _add(self, user, below, behind):
        """Push the front of the user behind a part of this node."""
        kind, marks, ahead, node, room, parts = user
        cost = ahead + self._insides[below][behind][0]
        front = (room, kind, behind)
        if self._is_less(cost, node, front):
            self._push(cost, node, front, parts + (self._piece(kind, marks, below, behind),))
