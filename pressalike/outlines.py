"""Outlines, their sides and their windings."""

from pressalike.checks import is_integer_from, is_row
from pressalike.errors import BadOutline

GRID = 4


def outline_of(letter, thing):
    """Return the outline as a tuple of rings of corners; the letter is for the error alone."""
    if not is_row(thing) or not 1 <= len(thing) <= 3:
        raise BadOutline(letter, None)
    for number in range(len(thing)):
        if not _is_ring(thing[number]):
            raise BadOutline(letter, number)
    return tuple([_ring_of(ring) for ring in thing])


def _ring_of(ring):
    return tuple([tuple(corner) for corner in ring])


def _is_corner(thing):
    if not is_row(thing) or len(thing) != 2:
        return False
    return all([is_integer_from(number, 0, GRID) for number in thing])


def _is_ring(thing):
    if not is_row(thing) or not 3 <= len(thing) <= 8:
        return False
    if not all([_is_corner(corner) for corner in thing]):
        return False
    return all([corner != following for corner, following in each_side(thing)])


def each_side(ring):
    """Yield the sides of a ring as tuples (corner, next corner), from the first corner on."""
    for at in range(len(ring)):
        yield tuple(ring[at]), tuple(ring[(at + 1) % len(ring)])


def winding(rings, x, y):
    """Return the winding of the rings around the cell (x, y)."""
    return sum([_count_of(side, x, y) for ring in rings for side in each_side(ring)])


def _count_of(side, x, y):
    """Return what the side adds to the winding around the cell: 1, -1 or 0."""
    (x0, y0), (x1, y1) = side
    if min(y0, y1) > y or max(y0, y1) < y + 1:
        return 0
    rise = y1 - y0
    count = 1 if rise > 0 else -1
    # Both sides of "crossing > x + 1/2" times 2 * rise are integers, so nothing is rounded.
    crossing = 2 * x0 * rise + (2 * y + 1 - 2 * y0) * (x1 - x0)
    middle = (2 * x + 1) * rise
    # A negative factor turns the comparison round.
    return count if count * crossing > count * middle else 0
