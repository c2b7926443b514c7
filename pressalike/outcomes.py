"""Outcomes: the ends that a piece can have, each with its greatest number of counted blocks and with what has it."""

from pressalike.building import Builder, edit_with, kids_of_way, piece_with
from pressalike.errors import BadGrammar
from pressalike.frontsearch import FrontSearch
from pressalike.greatest import Greatest

_FIRST_STEPS = 2000


def trimmed_with(grammar, kind):
    """Return the trimmed grammar; BadGrammar(kind) if it has no such kind."""
    trimmed = grammar.trimmed()
    if kind not in trimmed.kinds:
        raise BadGrammar(kind)
    return trimmed


def ends_in_order(ends):
    """Return the list of the ends, pairs ascending and None last."""
    pairs = sorted([end for end in ends if end is not None])
    return pairs + [None] if None in ends else pairs


class Outcomes:
    """What can come of a request, either ("pair", ..) or ("edit", ..), under a style and a trimmed grammar.

    The kind of the request may hold an edit of the deed, if one is asked for. If `only_all`, the greatest numbers are
    not asked for where there is no greatest one of all.
    """

    def __init__(self, style, grammar, deed, request, only_all=False):
        self.search = FrontSearch(style, grammar, deed)
        self.request = request
        number = self.search.ask(request)
        self._greatest = self._worked_out(number) if only_all else self._all_worked_out(number)
        self._items = [(number, end) for end in ends_in_order(self.search.ends[number])]
        self._plain = Builder(grammar, self.search.least_way)
        self._full = Builder(grammar, self._greatest.chosen)

    def _all_worked_out(self, number):
        """Return the greatest numbers of all ends."""
        while not self.search.go_on(_FIRST_STEPS):
            pass
        return Greatest(self.search, number, False)

    def _worked_out(self, number):
        """Return the greatest numbers of all ends, or of some of which one has none."""
        # What goes round for ever mostly does so among little pieces; then the great ones need not be gone through.
        steps = _FIRST_STEPS
        while not self.search.go_on(steps):
            greatest = Greatest(self.search, number, True)
            if greatest.turns:
                return greatest
            steps = 4 * steps
        return Greatest(self.search, number, True)

    def lacks_most(self):
        """Tell whether one of the ends has no greatest number."""
        return len(self._greatest.turns) > 0

    def number_of(self, number, end):
        """Return the greatest number of counted blocks of an item that the search has come to."""
        return self._greatest.greatest_of((number, end))

    def numbers(self):
        """Return the list of (ends, greatest number or None), in order."""
        return [(item[1], self._greatest.greatest_of(item)) for item in self._items]

    def example(self, end):
        """Return what has the ends, with the greatest number if it can be shown: a piece, or (piece, edit)."""
        return self._finished(self._full.build((self._items[0][0], end)))

    def pumped(self, times):
        """Return (piece, edit) with so many turns in it, each of which adds a counted block at least.

        There is an end without a greatest number.
        """
        way_in, turning = self._path(self._items, self._greatest.turns)
        way, place = self._greatest.turns[turning]
        kids = kids_of_way(turning, way)
        way_back = self._path([kids[place]], {turning: True})[0]
        beside = self._counted(kids[1 - place])
        made = self._plain.build(turning)
        for _ in range(times):
            insides = [beside, beside]
            insides[place] = self._along(way_back, made)
            made = self._plain.build_by(way, insides)
        return self._finished(self._along(way_in, made))

    def _finished(self, made):
        """Return the piece, or (piece, edit), that has this inside."""
        sort, kind, marks = self.request[:3]
        grammar = self.search.fronts.grammar
        if sort == "pair":
            return piece_with(grammar, kind, marks, made)
        piece = piece_with(grammar, kind, marks, made[0])
        return piece, edit_with(piece, made[1])

    def _counted(self, item):
        """Return something of the item or the arc with a counted block."""
        counted = {}
        for at in range(len(self.search.things)):
            for end in self.search.leaves[at]:
                if self.search.leaves[at][end][1] > 0:
                    counted[(at, end)] = True
        steps, leaf = self._path([item], counted)
        return self._along(steps, self.search.leaves[leaf[0]][leaf[1]][3])

    def _path(self, starts, goals):
        """Return (steps, goal): a shortest path from one of the starts to one of the goals, as `_steps_to` tells it."""
        came = {start: None for start in starts}
        todo = starts
        while todo:
            fresh = []
            for item in list(todo):
                if item in goals:
                    return _steps_to(came, item), item
                for way, kids in self._greatest.ways_of(item):
                    for kid in kids:
                        if kid not in came:
                            came[kid] = (item, way)
                            fresh.append(kid)
            todo = fresh
        return [], None

    def _along(self, steps, made):
        """Return what is made at the beginning of the path, if this is made at its end."""
        for way, kids, at in reversed(steps):
            insides = [made if place == at else self._plain.build(kids[place]) for place in range(len(kids))]
            made = self._plain.build_by(way, insides)
        return made


def _steps_to(came, goal):
    """Return the steps (way, kids of the way, place of the kid to go on with) of a path that came to the goal."""
    steps = []
    while came[goal] is not None:
        item, way = came[goal]
        kids = kids_of_way(item, way)
        steps.append((way, kids, kids.index(goal)))
        goal = item
    return steps[::-1]
