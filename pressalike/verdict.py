"""Verdicts: whether two styles print every manuscript of a grammar alike."""

from pressalike.contexts import with_elder
from pressalike.joinedrows import least_unlike, summaries
from pressalike.joint import PARTED, joint_begin, joint_block, joint_page
from pressalike.jointtext import check_faces
from pressalike.setter import block_stamps, print_tree


def first_unlike(one, two, tree):
    """Return (path of a block, number of its line) where the prints first differ, None if they are alike."""
    check_faces(one, two)
    place = print_tree(one, tree).unlike(print_tree(two, tree))
    if place is None:
        return None
    paths = [path for path, _ in tree.each_block()]
    return paths[place[0]], place[1]


def joint_run(one, two, tree):
    """Return the list of (path, kind, marks, context one, context two, ahead, behind) of all pieces."""
    check_faces(one, two)
    rows, ends = [], []
    joint = joint_begin()
    # What is left open has no piece: there all parts of the piece with this row have been set.
    todo = [((), tree, one.root_context(), two.root_context())]
    while todo:
        path, piece, first, second = todo.pop()
        if piece is None:
            ends[first] = joint
            continue
        rows.append((path, piece.kind, piece.marks, first, second, joint))
        joint = _begun(one, two, joint, rows[-1], piece)
        ends.append(joint)
        if not piece.is_block:
            todo.append((path, None, len(rows) - 1, None))
            todo.extend(_parts_to_come(one, two, rows[-1], piece)[::-1])
    return [row + (end,) for row, end in zip(rows, ends)]


def _begun(one, two, joint, row, piece):
    """Return the joint standing behind a block, or at the beginning of the first part of an inner piece."""
    _, kind, marks, first, second, _ = row
    values = one.sheet.values_of(kind, marks, first), two.sheet.values_of(kind, marks, second)
    if not piece.is_block:
        return joint_page(joint, values[0][4] and not values[0][5], values[1][4] and not values[1][5])
    if values[0][5] != values[1][5]:
        return joint_block((one.length, two.length), joint, len(piece.words), values[0], values[1])
    lines = block_stamps(one, values[0], piece.words)
    # A word that comes out unlike, or begins a line in one style only, makes the stamps of some line unlike.
    if lines != block_stamps(two, values[1], piece.words):
        return PARTED
    return joint_block((one.length, two.length), joint, len(lines), values[0], values[1])


def _parts_to_come(one, two, row, piece):
    """Return a list of (path, part, context one, context two) of the parts of the piece."""
    path, kind, marks, first, second, _ = row
    below_one, below_two = one.sheet.below(kind, marks, first, ""), two.sheet.below(kind, marks, second, "")
    elders = [""] + [part.kind for part in piece.parts]
    return [
        (path + (at,), piece.parts[at], with_elder(below_one, elders[at]), with_elder(below_two, elders[at]))
        for at in range(len(piece.parts))
    ]


def compare_styles(one, two, grammar):
    """Return the Verdict of the two styles for the grammar."""
    return Verdict(one, two, grammar)


class Verdict:
    """Whether two styles are alike for a grammar, and a cheapest manuscript that comes out unlike if they are not."""

    def __init__(self, one, two, grammar):
        self.manuscript = least_unlike(one, two, grammar)
        self.is_alike = self.manuscript is None
        self.place = None if self.is_alike else first_unlike(one, two, self.manuscript)
        self._compared = (one, two, grammar)

    def table(self):
        """Return the list of the rows (kind, marks, context one, context two, ahead, behind), ascending."""
        if not self.is_alike:
            return []
        one, two, grammar = self._compared
        found = summaries(one, two, grammar)
        return sorted([key + (behind,) for key in found for behind in found[key]])
