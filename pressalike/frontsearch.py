"""The search for all ends of fronts and insides, and for a least way to come to each."""

from heapq import heappop, heappush

from pressalike.fronts import Fronts, behind_part
from pressalike.leaves import Leaves
from pressalike.sights import RuleSight

# Fronts that are followed part by part; all other things are leaves.
FOLLOWED = ("own", "pair", "edit", "put")


class FrontSearch:
    """The ends of all that has been asked for; a thing that is asked for is told by a number of its own.

    An item is a pair (number, end). An arc is a pair (number, number) of a front and of a front behind one of its
    parts. A way tells how to come to an item or how to go along an arc:
    - ("leaf", thing): the words or parts that are the thing lead to the item;
    - ("on", number): a part that leads along the arc to this front leads to the item;
    - ("as", number): whatever leads to the end of this front leads to the item;
    - ("part", step, number, end): this step leads along the arc, with an inside of this number and this end.

    Items and arcs are taken up by their costs. What is asked for late is cheaper than what is taken up at that time,
    so it catches up, and each item and each arc is first come to with its least cost.
    """

    def __init__(self, style, grammar, deed=""):
        self.fronts = Fronts(RuleSight(style), grammar, deed)
        self.things = []
        # For each number: a dict from each end, and from each front to which an arc leads, to (least cost, way).
        self.ends = []
        self.arcs = []
        # For each number: a dict from each front to which an arc leads to the list of all ways along the arc.
        self.parts = []
        # For each number: a dict from each end in which a leaf ends to the leaf with the most counted blocks.
        self.leaves = []
        # A dict from each number whose ends are also those of a front to the number of this front.
        self.fronts_of = {}
        self._leaves = Leaves(style, self.fronts.endings)
        self._numbers = {}
        # For each number: the steps (front, step) that wait for the ends of an inside; the ways (item's number, way,
        # cost ahead) that wait for the ends of a front; and the costs of what stands in the queue.
        self._steps = []
        self._waiting = []
        self._costs = []
        self._fresh = []
        self._queue = []
        self._pushed = 0

    def ask(self, request):
        """Return the number of the inside that the request asks for; its ends come to be known by `go_on`."""
        return self._number(self.fronts.inside(request))

    def asked(self, request):
        """Return the number of the inside that the request asks for, once all of its ends are known."""
        number = self.ask(request)
        while not self.go_on(1000):
            pass
        return number

    def go_on(self, steps):
        """Take up at most so many things; tell whether all ends of all that has been asked for are known now.

        What is known is right all along, also before all is.
        """
        for _ in range(steps):
            if self._fresh:
                self._begin(self._fresh.pop())
            elif self._queue:
                cost, _, at, goal, way = heappop(self._queue)
                if way[0] == "part":
                    self._settle_arc(cost, at, goal, way)
                else:
                    self._settle(cost, at, goal, way)
            else:
                return True
        return False

    def least_way(self, item):
        """Return the way of least cost of an item or an arc."""
        at, goal = item
        return self.ends[at][goal][1] if goal in self.ends[at] else self.arcs[at][goal][1]

    def least_cost(self, item):
        """Return the least cost of an item or an arc."""
        at, goal = item
        return self.ends[at][goal][0] if goal in self.ends[at] else self.arcs[at][goal][0]

    def _number(self, thing):
        """Return the number of the thing; give it one if it is new."""
        if thing not in self._numbers:
            self._numbers[thing] = len(self.things)
            self._fresh.append(len(self.things))
            self.things.append(thing)
            self.ends.append({})
            self.arcs.append({})
            self.parts.append({})
            self.leaves.append({})
            self._costs.append({})
            self._steps.append([])
            self._waiting.append([])
        return self._numbers[thing]

    def _push(self, cost, at, goal, way):
        """Put the item or the arc into the queue, if it has not come there with this cost or a lesser one."""
        if cost < self._costs[at].get(goal, cost + 1):
            self._costs[at][goal] = cost
            # The number keeps the queue from comparing what stands behind it.
            self._pushed += 1
            heappush(self._queue, (cost, self._pushed, at, goal, way))

    def _begin(self, at):
        """Follow what is new."""
        thing = self.things[at]
        if thing[0] not in FOLLOWED:
            for leaf in self._leaves.leaves_of(thing):
                self._add_leaf(at, leaf)
            if thing[0] == "same" and thing[2] is not None:
                self.fronts_of[at] = self._number(thing[2])
                self._wait(self.fronts_of[at], at, ("as", self.fronts_of[at]), 0)
            return
        for end in self.fronts.last_ends(thing):
            self._add_leaf(at, (end, 0, 0, ()))
        known = {}
        for step in self.fronts.steps(thing):
            part = self._number(self.fronts.inside(step[4]))
            # Parts that do the same and lead to the same front are interchangeable.
            if (part, step[0], step[5]) not in known:
                known[(part, step[0], step[5])] = True
                self._steps[part].append((at, step))
                for end in list(self.ends[part]):
                    self._go_on(at, step, part, end)

    def _add_leaf(self, at, leaf):
        end, counted, cost, thing = leaf
        if end not in self.leaves[at] or counted > self.leaves[at][end][1]:
            self.leaves[at][end] = leaf
        self._push(cost, at, end, ("leaf", thing))

    def _settle(self, cost, at, end, way):
        """Note the least way to the item, and let all go on that wait for it."""
        if end not in self.ends[at]:
            self.ends[at][end] = (cost, way)
            for front, step in list(self._steps[at]):
                self._go_on(front, step, at, end)
            for number, way_there, ahead in list(self._waiting[at]):
                self._push(ahead + cost, number, end, way_there)

    def _go_on(self, at, step, part, end):
        """Go on behind a part with this end that follows in the front."""
        behind = self._number(behind_part(step[0], step[5], end))
        way = ("part", step, part, end)
        self.parts[at].setdefault(behind, []).append(way)
        self._push(1 + self.ends[part][end][0], at, behind, way)

    def _settle_arc(self, cost, at, behind, way):
        """Note the least way along the arc, and wait for the ends of the front to which it leads."""
        if behind not in self.arcs[at]:
            self.arcs[at][behind] = (cost, way)
            self._wait(behind, at, ("on", behind), cost)

    def _wait(self, front, at, way, ahead):
        """Wait for the ends of the front, which are also those of the waiting number."""
        self._waiting[front].append((at, way, ahead))
        for end in list(self.ends[front]):
            self._push(ahead + self.ends[front][end][0], at, end, way)
