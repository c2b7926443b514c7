"""Standings: all that blocks leave behind for the blocks that follow them.

Within a block, a page is told by its height (the rows down to the last line, 0
if a new page is due) and its tail (the rows from the line behind the last place
that is not barred to the last line, 0 if all places on the page are barred).
"""

from pressalike.checks import is_integer
from pressalike.errors import BadStanding

TOP = ("top", 0, 0)


def standings(length):
    """Return the list of all standings that some blocks leave, ascending."""
    all_barred = [("kept", height, 0) for height in range(1, length)]
    loose = [("kept", height, tail) for height in range(2, length + 1) for tail in range(1, height)]
    return sorted(all_barred + loose + [("open", height, 0) for height in range(1, length)] + [TOP])


def checked_standing(length, standing):
    """Return the standing; BadStanding(standing) if it is none of this length."""
    if not isinstance(standing, tuple) or not all([isinstance(part, str) or is_integer(part) for part in standing]):
        raise BadStanding(standing)
    if standing not in standings(length):
        raise BadStanding(standing)
    return standing


def count_class(length, count):
    """Return the class of a count."""
    return count if count < 4 else 4 + (count - 4) % length


def next_line(length, height, tail, space, barred):
    """Set one line; return (height, tail, whether the former tail went over to a new page)."""
    below = height + space + 1
    if height > 0 and below <= length:
        if not barred:
            return below, 1, False
        return below, _longer(tail, space), False
    if not barred or tail == 0:
        return 1, 0, False
    # All places in the tail are barred; so if the line does not fit behind it either, it begins a page itself.
    over = _longer(tail, space)
    return over if over <= length else 1, 0, True


def _longer(tail, space):
    return tail + space + 1 if tail > 0 else 0


def line_place(standing, at, count, space):
    """Return (space, barred): what stands ahead of line `at` of a block of so many lines behind the standing."""
    if at == 0:
        return space, standing[0] == "kept"
    return 0, at in (1, count - 1)


def standing_of(length, height, tail, kept):
    """Return the standing behind a block with lines."""
    if height == length and (not kept or tail == 0):
        return TOP
    return ("kept", height, tail) if kept else ("open", height, 0)


def after_block(length, standing, count, *, space=0, kept=False, page=False):
    """Return the standing that the block leaves that is set from this standing."""
    ahead = checked_standing(length, standing)
    if page:
        ahead = TOP
    # The class of the count does all that the count does.
    many = count_class(length, count)
    if many == 0:
        return ahead
    height, tail = ahead[1:]
    for at in range(many):
        above, barred = line_place(ahead, at, many, space)
        height, tail, _ = next_line(length, height, tail, above, barred)
    return standing_of(length, height, tail, kept)


def all_after(length, standing, *, space=0, kept=False, page=False):
    """Return the list of all (standing, least count) that such a block with at least one line leaves."""
    found = {}
    for count in line_counts(length):
        behind = after_block(length, standing, count, space=space, kept=kept, page=page)
        found.setdefault(behind, count)
    return sorted([(behind, found[behind]) for behind in found])


def line_counts(length):
    """Return the least count of each class but 0, ascending."""
    return list(range(1, length + 4))
