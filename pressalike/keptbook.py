"""Kept books: a tree under a style whose print is kept up through changes."""

from pressalike.pages import Page
from pressalike.prints import Print
from pressalike.setter import block_settings, block_stamps, enter_block, printed_blocks
from pressalike.standings import TOP


class Redo:
    """What a change did."""

    def __init__(self, span, met, felt):
        self.span = span
        self.behind = len(felt)
        self.met = met
        self.felt = felt


class KeptBook:
    """A tree with its print, of which a change sets anew only what it must."""

    def __init__(self, style, tree):
        self.style = style
        self.tree = tree
        self._inverses = []
        # One row (entry standing, standing behind, printed lines) for each block.
        self._rows = []
        self._set_anew(tree, (0, len(list(tree.each_block()))))

    def printed(self):
        """Return the print of the present tree."""
        return Print([lines for _, _, lines in self._rows])

    def entries(self):
        """Return the list of the entry standings of the blocks."""
        return [entry for entry, _, _ in self._rows]

    def undoable(self):
        """Return the number of changes that can still be taken back."""
        return len(self._inverses)

    def change(self, edit):
        """Make the change and return its Redo."""
        tree = edit.apply(self.tree)
        inverse = edit.inverse(self.tree)
        redo = self._set_anew(tree, edit.own(self.tree))
        self._inverses.append(inverse)
        return redo

    def change_all(self, *edits):
        """Make all changes in order, or none if one of them does not apply; return their Redos."""
        tree = self.tree
        for edit in edits:
            tree = edit.apply(tree)
        return [self.change(edit) for edit in edits]

    def undo(self):
        """Take back the last change and return its Redo, None if there is none."""
        if not self._inverses:
            return None
        edit = self._inverses.pop()
        return self._set_anew(edit.apply(self.tree), edit.own(self.tree))

    def _set_anew(self, tree, span):
        """Set anew what leads from the present tree to this one; the span is the own part of the change."""
        settings = block_settings(self.style, tree)
        stamped = self._stamped_anew(tree, settings, span)
        first = self._settled_ahead(span[0])
        page = Page.resumed(self.style.length, self._rows[first - 1][1] if first > 0 else TOP)
        fresh, met, felt = self._run(page, settings, stamped, first, span[1])
        stop = first + len(fresh)
        lines = printed_blocks(page, stamped[first:stop])
        rows = [row + (told,) for row, told in zip(fresh, lines)]
        self._rows = self._rows[:first] + rows + self._rows[len(self._rows) - len(settings) + stop:]
        self.tree = tree
        return Redo(span, met, felt)

    def _stamped_anew(self, tree, settings, span):
        """Return the stamps of the lines of all blocks of the new tree; only those of the span are worked out."""
        first, stop = span
        words = [block.words for _, block in tree.each_block()]
        known = [tuple([line[2] for line in lines]) for _, _, lines in self._rows]
        fresh = [block_stamps(self.style, settings[at][0], words[at]) for at in range(first, stop)]
        return known[:first] + fresh + known[len(known) - len(words) + stop:]

    def _settled_ahead(self, first):
        """Return the last ordinal up to the first one ahead of which no line is pending."""
        while first > 0 and self._rows[first - 1][1][2] > 0:
            first -= 1
        return first

    def _run(self, page, settings, stamped, first, stop):
        """Set the blocks from the first one on until both settings have met and no line is pending.

        Return (fresh, met, felt), where fresh has one (entry standing, standing behind) for each block set.
        """
        shift = len(self._rows) - len(settings)
        fresh, met, felt = [], None, []
        for at in range(first, len(settings)):
            values, is_due = settings[at]
            entry = enter_block(page, values, is_due)
            if at >= stop and met is None and entry is not None:
                former = self._rows[at + shift][0]
                if entry == former:
                    met = at
                elif stamped[at]:
                    felt.append((at, entry, former))
            # Lines that are pending where both settings meet can stand elsewhere than before the change.
            if met is not None and page.now[2] == 0:
                break
            page.block(len(stamped[at]), space=values[2], kept=values[3])
            fresh.append((entry, page.now))
        return fresh, met, tuple(felt)
