"""Faces: letters with their inks, gaps and bars."""

from pressalike.checks import LETTERS, is_integer_from, is_row
from pressalike.errors import BadFace, BadWord, NoInk
from pressalike.inks import blanks, ink_of, step_of
from pressalike.outlines import GRID, outline_of


class Face:
    """The outlines of the first 1 to 4 letters, and the distance between letters."""

    def __init__(self, outlines, apart=1):
        if not is_row(outlines):
            raise BadFace(None)
        if not 1 <= len(outlines) <= len(LETTERS):
            raise BadFace(len(outlines))
        if not is_integer_from(apart, 0, 2):
            raise BadFace(apart)
        self.apart = apart
        self._inks = {letter: _checked_ink(letter, thing) for letter, thing in zip(LETTERS, outlines)}
        self._fits = {
            left + right: _gap_and_bar(self._inks[left], self._inks[right], apart)
            for left in self._inks
            for right in self._inks
        }

    @property
    def letters(self):
        """The letters as one text."""
        return LETTERS[:len(self._inks)]

    def ink(self, letter):
        """Return the ink of the letter."""
        self._check(letter)
        return self._inks[letter]

    def step(self, letter):
        """Return the step of the letter."""
        return step_of(self.ink(letter))

    def gap(self, left, right):
        """Return the gap of the pair of letters."""
        self._check(left)
        self._check(right)
        return self._fits[left + right][0]

    def bar(self, left, right):
        """Return the bar of the pair of letters, None if its gap is 0."""
        self._check(left)
        self._check(right)
        return self._fits[left + right][1]

    def within(self, other):
        """Tell whether the other face has all letters of this one, with the same inks and distance."""
        if self.apart != other.apart:
            return False
        return all([letter in other.letters and other.ink(letter) == self.ink(letter) for letter in self.letters])

    def _check(self, letter):
        # A text of two letters is found in `letters`, too, but is no letter.
        if letter not in tuple(self.letters):
            raise BadWord(letter)

    def __eq__(self, other):
        return isinstance(other, Face) and self.apart == other.apart and self._inks == other._inks


def _checked_ink(letter, thing):
    ink = ink_of(outline_of(letter, thing))
    if step_of(ink) == 0:
        raise NoInk(letter)
    return ink


def _gap_and_bar(left, right, apart):
    gap, bar = 0, None
    row = _tight_row(left, right, gap, apart)
    while row is not None:
        gap, bar = gap + 1, row
        row = _tight_row(left, right, gap, apart)
    return gap, bar


def _tight_row(left, right, gap, apart):
    """Return the first row of cells in which the gap leaves too few blanks, None if there is none."""
    for row in range(GRID):
        between = blanks(left, right, row, gap)
        if between is not None and between < apart:
            return row
    return None
