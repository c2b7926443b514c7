"""Pieces: the trees that manuscripts are made of.

Trees are walked with a row of things to do, not by calls within calls, so
that deep trees do not exhaust the depth of calls.
"""

from pressalike.checks import LETTERS, is_integer_from, is_word_of
from pressalike.errors import BadPiece

KINDS = ("A", "B", "C")
MARKS = ("", "x", "y", "xy")


def checked_marks(marks):
    """Return the marks, or raise BadPiece(())."""
    if marks not in MARKS:
        raise BadPiece(())
    return marks


def checked_words(words):
    """Return the words as a tuple, or raise BadPiece(())."""
    if not all([is_word_of(LETTERS, word) for word in words]):
        raise BadPiece(())
    return tuple(words)


class Piece:
    """What an Inner and a Block have in common: a kind and marks."""

    def __init__(self, kind, marks):
        if kind not in KINDS:
            raise BadPiece(())
        self.kind = kind
        self.marks = checked_marks(marks)
        self._cost = 1

    @property
    def cost(self):
        """The number of pieces, words and letters."""
        return self._cost

    def piece_at(self, path):
        """Return the piece at the path; BadPiece(path) if there is none."""
        piece = self
        for place in path:
            parts = _parts_of(piece)
            if not is_integer_from(place, 0, len(parts) - 1):
                raise BadPiece(tuple(path))
            piece = parts[place]
        return piece

    def each_piece(self):
        """Yield (path, piece) for all pieces in document order."""
        todo = [((), self)]
        while todo:
            path, piece = todo.pop()
            yield path, piece
            parts = _parts_of(piece)
            for place in reversed(range(len(parts))):
                todo.append((path + (place,), parts[place]))

    def each_block(self):
        """Yield (path, block) for all blocks in document order."""
        for path, piece in self.each_piece():
            if isinstance(piece, Block):
                yield path, piece


class Inner(Piece):
    """A piece with parts."""

    def __init__(self, kind, marks, parts=()):
        super().__init__(kind, marks)
        self.parts = tuple(parts)
        if not all([isinstance(part, (Inner, Block)) for part in self.parts]):
            raise BadPiece(())
        self._cost = 1 + sum([part.cost for part in self.parts])

    @property
    def is_block(self):
        """False: this piece has parts."""
        return False

    def __len__(self):
        return len(self.parts)

    def __iter__(self):
        return iter(self.parts)

    def __eq__(self, other):
        return isinstance(other, Inner) and _same_trees(self, other)


class Block(Piece):
    """A piece with words."""

    def __init__(self, kind, marks, words=()):
        super().__init__(kind, marks)
        self.words = checked_words(words)
        self._cost = 1 + len(self.words) + sum([len(word) for word in self.words])

    @property
    def is_block(self):
        """True: this piece has words."""
        return True

    def __len__(self):
        return len(self.words)

    def __eq__(self, other):
        return isinstance(other, Block) and _same_trees(self, other)


def _parts_of(piece):
    return piece.parts if isinstance(piece, Inner) else ()


def _same_trees(one, two):
    todo = [(one, two)]
    while todo:
        left, right = todo.pop()
        if not _same_tops(left, right):
            return False
        todo.extend(list(zip(_parts_of(left), _parts_of(right))))
    return True


def _same_tops(left, right):
    """Tell whether two pieces are equal apart from what stands in their parts."""
    if left.kind != right.kind or left.marks != right.marks or left.is_block != right.is_block:
        return False
    if left.is_block:
        return left.words == right.words
    return len(left.parts) == len(right.parts)
