"""Grammars: which trees are manuscripts."""

from pressalike.checks import is_integer_from
from pressalike.errors import BadGrammar
from pressalike.pieces import KINDS, MARKS

MOST_ROOMS = 3


class Grammar:
    """A root kind and a row for each kind."""

    def __init__(self, root, rows):
        self.root = root
        self.kinds = tuple([kind for kind in KINDS if kind in rows])
        if root not in self.kinds:
            raise BadGrammar(root)
        self._rows = {}
        for kind in self.kinds:
            if not _is_row_of(rows[kind], self.kinds):
                raise BadGrammar(kind)
            self._rows[kind] = _ordered(rows[kind])
        self._targets = {
            (kind,) + step[:3]: step[3]
            for kind in self.kinds
            for step in self._row(kind)[1]
        }

    def has_blocks(self, kind):
        """Tell whether the pieces of this kind are blocks."""
        return kind in self._rows and self._rows[kind] is None

    def rooms(self, kind):
        """Return the number of rooms of the kind."""
        return self._row(kind)[0]

    def follow(self, kind, room, label):
        """Return the room to which the part with this label leads, None if it cannot follow."""
        return self._targets.get((kind, room) + tuple(label))

    def is_final(self, kind, room):
        """Tell whether the room is a final one."""
        return room in self._row(kind)[2]

    def steps(self, kind, room):
        """Return the steps of the room, a tuple of (kind, marks, target)."""
        return tuple([step[1:] for step in self._row(kind)[1] if step[0] == room])

    def judge(self, tree):
        """Return the path of the first wrong piece in document order, None if there is none."""
        todo = [((), tree, (tree.kind, tree.marks) == (self.root, ""))]
        while todo:
            path, piece, may_follow = todo.pop()
            if piece.is_block:
                if not may_follow or not self.has_blocks(piece.kind):
                    return path
            else:
                walked = self._walk(piece)
                if not may_follow or not self._is_right_inside(piece, walked):
                    return path
                # Behind a part that cannot follow nothing needs to be judged: that part comes first.
                for place in reversed(range(len(piece.parts))):
                    todo.append((path + (place,), piece.parts[place], walked[place + 1] is not None))
        return None

    def fits(self, tree):
        """Tell whether the tree is of the grammar."""
        return self.judge(tree) is None

    def endless(self):
        """Return the kinds that have no complete piece."""
        complete = {}
        # Each round finds one more kind at least, if there is one.
        for _ in self.kinds:
            for kind in self.kinds:
                if self._has_end(kind, complete):
                    complete[kind] = True
        return tuple([kind for kind in self.kinds if kind not in complete])

    def trimmed(self):
        """Return the grammar of just what manuscripts use; BadGrammar(root) if there is none."""
        without = self.endless()
        if self.root in without:
            raise BadGrammar(self.root)
        used = {kind: _used_row(self._rows[kind], without) for kind in self.kinds}
        within = [(kind, step[1]) for kind in used if used[kind] is not None for step in used[kind][1]]
        occurring = _spread([self.root], within)
        return Grammar(self.root, {kind: used[kind] for kind in used if kind in occurring})

    def _row(self, kind):
        """Return the row of the kind; one without rooms if it has none or is a kind of blocks."""
        if kind not in self._rows or self._rows[kind] is None:
            return 0, (), ()
        return self._rows[kind]

    def _walk(self, piece):
        """Return the room ahead of each part and the one behind the last; None once no step follows."""
        walked = [0]
        for part in piece.parts:
            room = walked[-1]
            if room is not None:
                room = self.follow(piece.kind, room, (part.kind, part.marks))
            walked.append(room)
        return walked

    def _is_right_inside(self, piece, walked):
        if self.rooms(piece.kind) == 0:
            return False
        return walked[-1] is None or self.is_final(piece.kind, walked[-1])

    def _has_end(self, kind, complete):
        """Tell whether pieces of these complete kinds make a complete piece of this kind."""
        if self.has_blocks(kind):
            return True
        ways = [(step[0], step[3]) for step in self._row(kind)[1] if step[1] in complete]
        reached = _spread([0], ways)
        return any([self.is_final(kind, room) for room in reached])

    def __eq__(self, other):
        return isinstance(other, Grammar) and self.root == other.root and self._rows == other._rows


def _is_row_of(row, kinds):
    """Tell whether the row is right beside the rows of these kinds."""
    if row is None:
        return True
    many, steps, finals = row
    if not is_integer_from(many, 1, MOST_ROOMS):
        return False
    if not all([_is_step(step, many, kinds) for step in steps]):
        return False
    if not all([is_integer_from(room, 0, many - 1) for room in finals]):
        return False
    return len(set([tuple(step[:3]) for step in steps])) == len(steps)


def _is_step(step, many, kinds):
    room, kind, marks, target = step
    if not is_integer_from(room, 0, many - 1) or not is_integer_from(target, 0, many - 1):
        return False
    return kind in kinds and marks in MARKS


def _ordered(row):
    """Return the row as tuples in ascending order, so that equal rows compare equal."""
    if row is None:
        return None
    many, steps, finals = row
    return many, tuple(sorted([tuple(step) for step in steps])), tuple(sorted(set(finals)))


def _used_row(row, without):
    """Return the row with just the steps and finals that rows of parts without these kinds use."""
    if row is None:
        return None
    many, steps, finals = row
    sound = [step for step in steps if step[1] not in without]
    ahead = _spread([0], [(step[0], step[3]) for step in sound])
    behind = _spread(finals, [(step[3], step[0]) for step in sound])
    used = [step for step in sound if step[0] in ahead and step[3] in behind]
    return many, used, [room for room in finals if room in ahead]


def _spread(starts, ways):
    """Return a dict whose keys are all that the ways (from, to) reach from the starts."""
    reached = {start: True for start in starts}
    # No way is needed more than once, so as many rounds as there are ways suffice.
    for _ in ways:
        for begin, end in ways:
            if begin in reached:
                reached[end] = True
    return reached
