"""The check of a table of rows, one production at a time."""

from pressalike.joint import PARTED, alike_at_end, joint_begin, joint_page
from pressalike.jointtext import check_faces, filled_texts, texts_behind
from pressalike.sights import Sight


def flaw(one, two, grammar, rows):
    """Return "begin", "unlike" or "missing" for the first flaw of the rows, None if they have none."""
    check_faces(one, two)
    trimmed = grammar.trimmed()
    table = {}
    for row in rows:
        key = tuple(row[:5])
        table.setdefault(key, {})
        table[key][row[5]] = True
    root = (trimmed.root, "", one.root_context(), two.root_context(), joint_begin())
    if root not in table:
        return "begin"
    if not all([alike_at_end(behind) for behind in table[root]]):
        return "unlike"
    check = ProductionCheck(Sight(one), Sight(two), trimmed, table)
    for key in table:
        if not check.is_closed(key):
            return "missing"
    return None


class ProductionCheck:
    """The productions of the keys of a table, a dict from each key to a dict whose keys are what stands behind."""

    def __init__(self, one, two, grammar, table):
        # The sights of both styles.
        self._one = one
        self._two = two
        self._grammar = grammar
        self._table = table
        self._texts = {}
        # For each (kind, contexts below, joint standing): what the parts leave, None if a key has no row.
        self._known = {}

    def is_closed(self, key):
        """Tell whether the table has a row for all that follows from a piece with this key."""
        kind, marks, context_one, context_two, ahead = key
        first, below_one = self._one.set_in(kind, marks, context_one)
        second, below_two = self._two.set_in(kind, marks, context_two)
        if self._grammar.has_blocks(kind):
            found = self._behind_block(first, second, ahead)
        else:
            inside = joint_page(ahead, first[4] and not first[5], second[4] and not second[5])
            found = self._behind_parts(kind, below_one, below_two, inside)
        return found is not None and all([behind in self._table[key] for behind in found])

    def _behind_block(self, first, second, ahead):
        """Return a dict whose keys are what the texts of a block with these values leave."""
        one, two = self._one.style, self._two.style
        if (first, second) not in self._texts:
            self._texts[(first, second)] = filled_texts(one, two, first, second)
        return texts_behind((one.length, two.length), ahead, self._texts[(first, second)], first, second)

    def _behind_parts(self, kind, below_one, below_two, inside):
        """Return a dict whose keys are what all rows of parts leave by the table, None if a key has no row."""
        node = (kind, below_one, below_two, inside)
        if node not in self._known:
            self._known[node] = self._followed(node)
        return self._known[node]

    def _followed(self, node):
        kind, below_one, below_two, inside = node
        found, known = {}, {}
        todo = [(0, "", inside)]
        while todo:
            front = todo.pop()
            room, elder, joint = front
            if front in known:
                continue
            known[front] = True
            # Behind what is parted some parts lead to the end, and it stays parted.
            if joint == PARTED or self._grammar.is_final(kind, room):
                found[joint] = True
            if joint == PARTED:
                continue
            contexts = (self._one.part_context(below_one, elder), self._two.part_context(below_two, elder))
            for part, marks, target in self._grammar.steps(kind, room):
                key = (part, marks) + contexts + (joint,)
                if key not in self._table:
                    return None
                todo.extend([(target, part, behind) for behind in self._table[key]])
        return found
