"""Tables that hold: rank rows, or any rows like them, that show that no edit reaches further."""

from pressalike.components import Components
from pressalike.fronts import Fronts, behind_part
from pressalike.frontsearch import FOLLOWED, FrontSearch
from pressalike.leaves import Leaves
from pressalike.sights import Sight
from pressalike.standings import TOP


def ranks_hold(style, grammar, deed, table):
    """Tell whether the table holds for the style, the grammar and the deed."""
    trimmed = grammar.trimmed()
    check = RankCheck(style, trimmed, deed, table)
    root = ("edit", trimmed.root, "", style.root_context(), TOP)
    return check.has_row(root) and check.follow() and check.sum_up() and check.are_enough()


class RankCheck:
    """Goes through all ways in which pieces are made of parts; what parts with rows do is told by the rows.

    All entries are followed by fronts. The sums of a front are the greatest sums of the numbers of the rows that are
    used from there on, one for each end.
    """

    def __init__(self, style, grammar, deed, table):
        self._fronts = Fronts(Sight(style), grammar, deed)
        self._leaves = Leaves(style, self._fronts.endings)
        # Tells what parts without rows do.
        self._search = FrontSearch(style, grammar)
        self._rows = {}
        for sort, kind, marks, context, ahead, end, number in table:
            request = ("pair" if sort == "behind" else "edit", kind, marks, context, ahead)
            self._rows.setdefault(request, {})
            self._rows[request][end] = number
        # For each front, a dict from the fronts behind its parts to the greatest number of a row that leads there.
        self._ways = {}
        self._sums = {}
        self._has_sums = True

    def has_row(self, request):
        """Tell whether there is a row for the entry that is requested, if it needs one."""
        return request in self._rows or not self._is_entry(request)

    def follow(self):
        """Follow all fronts; tell whether each entry that is needed has a row."""
        todo = [self._fronts.inside(request) for request in self._rows if self._is_entry(request)]
        while todo:
            front = todo.pop()
            if front not in self._ways:
                if not self._follow_steps(front):
                    return False
                todo.extend(list(self._ways[front]))
        return True

    def sum_up(self):
        """Work out the sums of all fronts; tell whether there are greatest ones."""
        walk = Components(self._fronts_behind, self._add_sums)
        for front in self._ways:
            walk.walk(front)
        return self._has_sums

    def are_enough(self):
        """Tell whether each entry has rows with numbers that are at least the sums."""
        for request in self._rows:
            if self._is_entry(request):
                row, sums = self._rows[request], self._sums[self._fronts.inside(request)]
                if not all([end in row and row[end] >= sums[end] for end in sums]):
                    return False
        return True

    def _is_entry(self, request):
        return request[0] == "pair" or request[1] in self._fronts.holders

    def _follow_steps(self, front):
        """Note the ways behind the parts that may follow in the front; tell whether each needed entry has a row."""
        found = {}
        self._ways[front] = found
        if front[0] == "same" and front[2] is not None:
            found[front[2]] = 0
        for step in self._fronts.steps(front) if front[0] in FOLLOWED else []:
            request = step[4]
            needs_row = request[0] in ("pair", "edit")
            if needs_row and request not in self._rows:
                return False
            told = self._rows[request] if needs_row else self._single_ends(request)
            for end in told:
                behind = behind_part(step[0], step[5], end)
                found[behind] = max(found.get(behind, told[end]), told[end])
        return True

    def _single_ends(self, request):
        """Return a dict from each end of a part without a row to 0."""
        return {end: 0 for end in self._search.ends[self._search.asked(request)]}

    def _fronts_behind(self, front):
        return list(self._ways[front])

    def _add_sums(self, members):
        """Add the sums of the fronts of a component; those behind it have been added. Tell whether there are none."""
        for front in members:
            self._sums[front] = self._last_sums(front)
        # Greatest sums are come to without going to a front twice; what grows after that grows for ever.
        rounds = 0
        while any([self._grow(front) for front in members]):
            rounds += 1
            if rounds > len(members):
                self._has_sums = False
                return True
        return False

    def _last_sums(self, front):
        """Return the sums of the front without the ways behind its parts."""
        if front[0] in FOLLOWED:
            return {end: 0 for end in self._fronts.last_ends(front)}
        sums = {}
        for end, counted, _, _ in self._leaves.leaves_of(front):
            sums[end] = max(sums.get(end, counted), counted)
        return sums

    def _grow(self, front):
        """Let the sums of the front grow by those of the fronts behind; tell whether one has grown."""
        sums, has_grown = self._sums[front], False
        for behind, number in self._ways[front].items():
            for end, more in list(self._sums[behind].items()):
                if end not in sums or sums[end] < number + more:
                    sums[end] = number + more
                    has_grown = True
        return has_grown
