"""Inks: which cells are black, and the blanks between two inks."""

from pressalike.outlines import GRID, winding


def ink_of(rings):
    """Return the ink of the rings, a tuple of four texts from the top."""
    return tuple([_ink_row(rings, y) for y in range(GRID)])


def _ink_row(rings, y):
    return "".join(["#" if winding(rings, x, y) != 0 else "." for x in range(GRID)])


def leftmost(ink, row):
    """Return the least inked column in the row of cells, None if it has no ink."""
    return _column_or_none(ink[row].find("#"))


def rightmost(ink, row):
    """Return the greatest inked column in the row of cells, None if it has no ink."""
    return _column_or_none(ink[row].rfind("#"))


def _column_or_none(column):
    return None if column < 0 else column


def step_of(ink):
    """Return the greatest inked column and 1, or 0 without ink."""
    return max([cells.rfind("#") + 1 for cells in ink])


def blanks(left, right, row, gap):
    """Return the blanks between two inks with this gap in the row of cells, None if one has no ink there."""
    end, begin = rightmost(left, row), leftmost(right, row)
    if end is None or begin is None:
        return None
    return step_of(left) + gap + begin - end - 1
