"""Edits of manuscripts, their inverses and their own parts."""

from pressalike.checks import is_integer_from
from pressalike.errors import BadEdit, BadPiece
from pressalike.pieces import Block, Inner, checked_marks, checked_words


class Edit:
    """The base of the four edits; by itself it applies to no manuscript."""

    DEED = ""

    def __init__(self, path):
        self.path = tuple(path)

    def apply(self, tree):
        """Return the new manuscript; BadEdit(path) if the edit does not apply."""
        raise BadEdit(self.path)

    def inverse(self, tree):
        """Return the edit that leads from the new manuscript back to the tree."""
        raise BadEdit(self.path)

    def own(self, tree):
        """Return the own part, a pair (first, stop) of ordinals in the new manuscript."""
        raise BadEdit(self.path)

    def _given(self):
        """Return the field beside the path."""
        return None

    def _old(self, tree, path):
        """Return the piece of the tree at the path, or raise BadEdit."""
        try:
            return tree.piece_at(path)
        except BadPiece:
            raise BadEdit(self.path) from None

    def _old_parts(self, tree, spare):
        """Return the parts of the parent; the last number of the path is less than their number and `spare`."""
        if self.path == ():
            raise BadEdit(self.path)
        parent = self._old(tree, self.path[:-1])
        if parent.is_block or not is_integer_from(self.path[-1], 0, len(parent) + spare - 1):
            raise BadEdit(self.path)
        return parent.parts

    def __eq__(self, other):
        return type(self) is type(other) and self.path == other.path and self._given() == other._given()


class Words(Edit):
    """Gives the block at the path other words."""

    DEED = "words"

    def __init__(self, path, words):
        super().__init__(path)
        self.words = checked_words(words)

    def apply(self, tree):
        """Return the manuscript with the new words."""
        old = self._old_block(tree)
        return _with_piece(tree, self.path, Block(old.kind, old.marks, self.words))

    def inverse(self, tree):
        """Return the Words with the old words."""
        return Words(self.path, self._old_block(tree).words)

    def own(self, tree):
        """Return the span of the block."""
        self._old_block(tree)
        first = _blocks_before(tree, self.path)
        return first, first + 1

    def _given(self):
        return self.words

    def _old_block(self, tree):
        old = self._old(tree, self.path)
        if not old.is_block:
            raise BadEdit(self.path)
        return old


class Marks(Edit):
    """Gives the piece at the path other marks."""

    DEED = "marks"

    def __init__(self, path, marks):
        super().__init__(path)
        self.marks = checked_marks(marks)

    def apply(self, tree):
        """Return the manuscript with the new marks."""
        old = self._old(tree, self.path)
        if old.is_block:
            return _with_piece(tree, self.path, Block(old.kind, self.marks, old.words))
        return _with_piece(tree, self.path, Inner(old.kind, self.marks, old.parts))

    def inverse(self, tree):
        """Return the Marks with the old marks."""
        return Marks(self.path, self._old(tree, self.path).marks)

    def own(self, tree):
        """Return the span of the blocks of the piece."""
        return _span(tree, self.path, [self._old(tree, self.path)])

    def _given(self):
        return self.marks


class Put(Edit):
    """Puts a piece in as the part with the path."""

    DEED = "parts"

    def __init__(self, path, piece):
        super().__init__(path)
        if not isinstance(piece, (Inner, Block)):
            raise BadPiece(())
        self.piece = piece

    def apply(self, tree):
        """Return the manuscript with the piece put in."""
        parts, place = self._old_parts(tree, 1), self.path[-1]
        return _with_parts(tree, self.path[:-1], parts[:place] + (self.piece,) + parts[place:])

    def inverse(self, tree):
        """Return the Drop of the piece."""
        self._old_parts(tree, 1)
        return Drop(self.path)

    def own(self, tree):
        """Return the span of the blocks of the piece and of the sibling behind it."""
        parts, place = self._old_parts(tree, 1), self.path[-1]
        return _span(tree, self.path, (self.piece,) + parts[place:place + 1])

    def _given(self):
        return self.piece


class Drop(Edit):
    """Takes out the piece at the path."""

    DEED = "parts"

    def apply(self, tree):
        """Return the manuscript without the piece."""
        parts, place = self._old_parts(tree, 0), self.path[-1]
        return _with_parts(tree, self.path[:-1], parts[:place] + parts[place + 1:])

    def inverse(self, tree):
        """Return the Put of the old piece."""
        parts = self._old_parts(tree, 0)
        return Put(self.path, parts[self.path[-1]])

    def own(self, tree):
        """Return the span of the blocks of the sibling behind the dropped piece."""
        parts, place = self._old_parts(tree, 0), self.path[-1]
        return _span(tree, self.path, parts[place + 1:place + 2])


def _with_piece(tree, path, piece):
    """Return the tree with this piece at the path."""
    for level in reversed(range(len(path))):
        parent, place = tree.piece_at(path[:level]), path[level]
        piece = Inner(parent.kind, parent.marks, parent.parts[:place] + (piece,) + parent.parts[place + 1:])
    return piece


def _with_parts(tree, path, parts):
    """Return the tree in which the inner piece at the path has these parts."""
    old = tree.piece_at(path)
    return _with_piece(tree, path, Inner(old.kind, old.marks, parts))


def _span(tree, path, pieces):
    """Return (first, stop) for the blocks of these pieces, the first of which has this path in the new tree."""
    first = _blocks_before(tree, path)
    return first, first + _block_count(pieces)


def _blocks_before(tree, path):
    """Return the number of blocks that come before the place in document order."""
    before = 0
    for level in range(len(path)):
        before += _block_count(tree.piece_at(path[:level]).parts[:path[level]])
    return before


def _block_count(pieces):
    return sum([len(list(piece.each_block())) for piece in pieces])
