"""Summaries of two styles and a grammar: what each piece does to the joint standing ahead of it."""

from heapq import heappop, heappush

from pressalike.contexts import parts_cost
from pressalike.joint import PARTED, alike_at_end, joint_begin, joint_page
from pressalike.jointtext import check_faces, filled_texts, texts_behind
from pressalike.leasttrees import rest
from pressalike.pens import text_cost
from pressalike.pieces import Block, Inner
from pressalike.sights import RuleSight, Sight


def summaries(one, two, grammar):
    """Return a dict from each key to a dict from each joint standing behind it to (least cost, such a piece)."""
    check_faces(one, two)
    search = Search(Sight(one), Sight(two), grammar.trimmed())
    return search.run()


def least_unlike(one, two, grammar):
    """Return a manuscript of least cost that the two styles print unlike, None if there is none."""
    check_faces(one, two)
    search = Search(RuleSight(one), RuleSight(two), grammar.trimmed())
    return search.first_unlike()


class Search:
    """A search for all keys that are needed, and for the least piece of each key and joint standing behind.

    Keys whose pieces may have the same inside (parts or words) and do the same with it share a node: a
    tuple (kind, values or contexts below in both styles, joint standing). A front (room, elder, joint
    standing) of a node is what the first parts inside leave; its room is None behind the whole inside.

    Fronts are taken up by their costs. One that is asked for late is cheaper than what is taken up at
    that time, so it catches up, and each front is first taken up with its least cost.
    """

    def __init__(self, one, two, grammar):
        # The sights of both styles.
        self._one = one
        self._two = two
        self._grammar = grammar
        self._nodes = {}
        # For each node, the least (cost, inside) of each joint standing behind it that has been found.
        self._insides = {}
        # For each node, the fronts that go on behind it: (kind, marks, cost, node, room, parts).
        self._users = {}
        self._texts = {}
        self._rests = {}
        self._pieces = {}
        self._least = {}
        self._queue = []
        self._pushed = 0

    def run(self):
        """Return the summaries."""
        self._ask_root()
        while self._queue:
            self._take_up()
        return {key: self._row(key) for key in self._nodes}

    def first_unlike(self):
        """Return the first manuscript that comes out unlike, None if there is none; it has the least cost."""
        root = self._ask_root()
        while self._queue:
            node, front = self._take_up()
            if node == root and front[0] is None and not alike_at_end(front[2]):
                return self._piece(self._grammar.root, "", root, front[2])
        return None

    def _ask_root(self):
        """Return the node of the root."""
        contexts = (self._one.style.root_context(), self._two.style.root_context())
        return self._ask((self._grammar.root, "") + contexts + (joint_begin(),))

    def _take_up(self):
        """Take up what comes first in the queue; return its node and front."""
        cost, _, node, front, inside = heappop(self._queue)
        if cost == self._least[(node, front)]:
            if front[0] is None:
                self._end(cost, node, front[2], inside)
            else:
                self._go_on(cost, node, front, inside)
        return node, front

    def _row(self, key):
        """Return the dict from each joint standing behind the key to (cost, piece)."""
        node = self._nodes[key]
        found = self._insides[node]
        return {behind: (found[behind][0], self._piece(key[0], key[1], node, behind)) for behind in found}

    def _piece(self, kind, marks, node, behind):
        """Return the least piece with this label that has an inside of the node and leaves this behind."""
        told = (marks, node, behind)
        if told not in self._pieces:
            inside = self._insides[node][behind][1]
            is_block = self._grammar.has_blocks(kind)
            self._pieces[told] = Block(kind, marks, inside) if is_block else Inner(kind, marks, inside)
        return self._pieces[told]

    def _push(self, cost, node, front, inside):
        if self._is_less(cost, node, front):
            self._least[(node, front)] = cost
            # The number keeps the queue from comparing what stands behind it.
            self._pushed += 1
            heappush(self._queue, (cost, self._pushed, node, front, inside))

    def _is_less(self, cost, node, front):
        return (node, front) not in self._least or cost < self._least[(node, front)]

    def _ask(self, key):
        """Return the node of the key; push its first fronts if it is new."""
        if key not in self._nodes:
            kind, marks, context_one, context_two, ahead = key
            first, below_one = self._one.set_in(kind, marks, context_one)
            second, below_two = self._two.set_in(kind, marks, context_two)
            if self._grammar.has_blocks(kind):
                self._nodes[key] = (kind, first, second, ahead)
            else:
                inside = joint_page(ahead, first[4] and not first[5], second[4] and not second[5])
                self._nodes[key] = (kind, below_one, below_two, inside)
            self._begin(self._nodes[key])
        return self._nodes[key]

    def _begin(self, node):
        """Push the first fronts of the node if it is new."""
        if node in self._insides:
            return
        self._insides[node] = {}
        self._users[node] = []
        kind, first, second, joint = node
        if not self._grammar.has_blocks(kind):
            self._push(1, node, (0, "", joint), ())
            return
        if (first, second) not in self._texts:
            self._texts[(first, second)] = filled_texts(self._one.style, self._two.style, first, second)
        lengths = (self._one.style.length, self._two.style.length)
        for behind, words in texts_behind(lengths, joint, self._texts[(first, second)], first, second).items():
            self._push(1 + text_cost(words), node, (None, "", behind), words)

    def _go_on(self, cost, node, front, parts):
        """Go on behind the first parts of a piece."""
        room, elder, joint = front
        kind, below_one, below_two, _ = node
        if joint == PARTED:
            behind = self._rest(kind, room)
            self._push(cost + parts_cost(behind), node, (None, "", PARTED), parts + behind)
            return
        if self._grammar.is_final(kind, room):
            self._push(cost, node, (None, "", joint), parts)
        contexts = (self._one.part_context(below_one, elder), self._two.part_context(below_two, elder))
        known = {}
        for part, marks, target in self._grammar.steps(kind, room):
            below = self._ask((part, marks) + contexts + (joint,))
            # Of parts that do the same and lead to the same room one is enough.
            if (below, target) not in known:
                known[(below, target)] = True
                user = (part, marks, cost, node, target, parts)
                self._users[below].append(user)
                for behind in self._insides[below]:
                    self._add(user, below, behind)

    def _rest(self, kind, room):
        if (kind, room) not in self._rests:
            self._rests[(kind, room)] = rest(self._grammar, kind, room)
        return self._rests[(kind, room)]

    def _elder(self, kind):
        """Return what is seen of an elder of this kind under one of the styles."""
        return kind if kind in (self._one.elder(kind), self._two.elder(kind)) else ""

    def _end(self, cost, node, behind, inside):
        """Note the inside, and let all users of the node go on behind it."""
        self._insides[node][behind] = (cost, inside)
        for user in self._users[node]:
            self._add(user, node, behind)

    def _add(self, user, below, behind):
        """Push the front of the user behind a part of this node."""
        kind, marks, ahead, node, room, parts = user
        cost = ahead + self._insides[below][behind][0]
        front = (room, self._elder(kind), behind)
        if self._is_less(cost, node, front):
            self._push(cost, node, front, parts + (self._piece(kind, marks, below, behind),))
