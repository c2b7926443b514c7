"""Greatest numbers of counted blocks, and what has them."""

from pressalike.components import Components

# More counted blocks than this need not be shown.
MOST_SHOWN = 60
# The things in which blocks are counted, the fronts with arcs along which they are, and the steps by which they are.
_COUNTING = ("pair", "pairwords", "edit", "put", "same")
_COUNTING_ARCS = ("pair", "edit")
_COUNTING_STEPS = ("pair", "holds")


class Greatest:
    """The greatest numbers of all items and arcs to which this number of a `FrontSearch` leads, with each of its ends.

    The kids of a way are the items and arcs to which it leads. Those without counted blocks are left away among them.
    If only the greatest number of all is asked for, nothing further is worked out once it is known that there is none.
    """

    def __init__(self, search, number, only_all):
        self._search = search
        self._counting = [thing[0] in _COUNTING for thing in search.things]
        self._arc_counting = [thing[0] in _COUNTING_ARCS for thing in search.things]
        self._ways = {}
        self._most = {}
        # For items with 1 to 60 counted blocks: (cost, way) of a least way to the greatest number.
        self._shown = {}
        # For items without a greatest number that lead back to themselves: (way, place), where the kid at this place
        # leads back to the item, and the other one has counted blocks.
        self.turns = {}
        self._only_all = only_all
        walk = Components(self._kept_kids, self._add)
        if self._counting[number]:
            for end in search.ends[number]:
                walk.walk((number, end))

    def greatest_of(self, item):
        """Return the greatest number of counted blocks, None if there is none."""
        return self._most[item] if self._counting[item[0]] else 0

    def chosen(self, item):
        """Return a way of the item that has its greatest number, a least one if that is not shown."""
        return self._shown[item][1] if item in self._shown else self._search.least_way(item)

    def ways_of(self, item):
        """Return the list of (way, tuple of its kids) of an item or an arc."""
        at, goal = item
        if goal in self._search.arcs[at]:
            return self._ways_along(at, goal)
        ends, counting = self._search.ends, self._counting
        found = []
        if at in self._search.fronts_of and goal in ends[self._search.fronts_of[at]]:
            front = self._search.fronts_of[at]
            found.append((("as", front), ((front, goal),)))
        for behind in self._search.arcs[at]:
            if goal in ends[behind]:
                kids = ((behind, goal),) if counting[behind] else ()
                if self._arc_counting[at]:
                    kids = ((at, behind),) + kids
                found.append((("on", behind), kids))
        return found

    def leaf_number(self, item):
        """Return the greatest number that a leaf of the item has, None if it has no leaf."""
        leaf = self._search.leaves[item[0]].get(item[1])
        return None if leaf is None else leaf[1]

    def _ways_along(self, at, behind):
        found = []
        for way in self._search.parts[at][behind]:
            _, step, part, end = way
            is_counting = step[0] in _COUNTING_STEPS and self._counting[part]
            found.append((way, ((part, end),) if is_counting else ()))
        return found

    def _kept_kids(self, item):
        """Return the list of all kids of the item; keep its ways until it is added."""
        self._ways[item] = self.ways_of(item)
        return [kid for _, kids in self._ways[item] for kid in kids]

    def _add(self, members):
        """Add the members of a component; those to which they lead have been added. Tell whether that is enough."""
        inside = {item: True for item in members}
        most, endless, inner = 0, False, []
        for item in members:
            most = max(most, self.leaf_number(item) or 0)
            for way, kids in self._ways[item]:
                beside = self._sum_beside(kids, inside)
                if beside is None:
                    endless = True
                elif any([kid in inside for kid in kids]):
                    inner.append((item, way, kids))
                else:
                    most = max(most, beside)
        # What can be had again and again by going round has no greatest number.
        turns = [] if endless else self._turns_among(inside, inner, most)
        for item, way, place in turns:
            self.turns[item] = (way, place)
        for item in members:
            self._most[item] = None if endless or turns else most
        if not endless and not turns and 0 < most <= MOST_SHOWN:
            self._show(members, most)
        for item in members:
            del self._ways[item]
        return self._only_all and len(self.turns) > 0

    def _sum_beside(self, kids, inside):
        """Return the sum of the greatest numbers of the kids that are not inside, None if one of them has none."""
        total = 0
        for kid in kids:
            if kid not in inside:
                if self._most[kid] is None:
                    return None
                total += self._most[kid]
        return total

    def _turns_among(self, inside, inner, most):
        """Return a list of (item, way, place of a kid) of the ways that stay inside and gain something beside."""
        found = []
        for item, way, kids in inner:
            if len(kids) == 2:
                for place in (0, 1):
                    sibling = kids[1 - place]
                    gain = most if sibling in inside else self._most[sibling]
                    if kids[place] in inside and gain > 0:
                        found.append((item, way, place))
        return found

    def _show(self, members, most):
        """Find least ways to the greatest number; whatever leads round in the component gains nothing."""
        full = {item: self._full_ways(item, most) for item in members}
        changed = True
        while changed:
            changed = False
            for item in members:
                for way, kids in full[item]:
                    cost = self._shown_cost(item, way, kids)
                    if cost is not None and (item not in self._shown or cost < self._shown[item][0]):
                        self._shown[item] = (cost, way)
                        changed = True

    def _full_ways(self, item, most):
        """Return a list of (way, kids) of all ways of the item to the greatest number."""
        found = []
        if self.leaf_number(item) == most:
            found.append((("leaf", self._search.leaves[item[0]][item[1]][3]), ()))
        for way, kids in self._ways[item]:
            if sum([self._most[kid] for kid in kids]) == most:
                found.append((way, kids))
        return found

    def _shown_cost(self, item, way, kids):
        """Return the cost of the way, None if one of its kids that have counted blocks has not been shown."""
        if not all([kid in self._shown for kid in kids if self._most[kid] > 0]):
            return None
        at, goal = item
        if way[0] == "leaf":
            return self._search.leaves[at][goal][2]
        if way[0] == "part":
            return 1 + self._cost((way[2], way[3]))
        if way[0] == "as":
            return self._cost((way[1], goal))
        return self._cost((at, way[1])) + self._cost((way[1], goal))

    def _cost(self, item):
        return self._shown[item][0] if item in self._shown else self._search.least_cost(item)
