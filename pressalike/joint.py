"""Joint standings: two styles under the same blocks, as long as nothing unlike is settled.

The side of one style is worked with as a tuple (settled, standing, offsets):
the lines that are settled in this style but not yet compared, the standing,
and the offsets of the pending lines.
"""

from pressalike.pages import Page
from pressalike.standings import TOP

PARTED = "parted"


def joint_begin():
    """Return the joint standing of the beginning."""
    return TOP, (), TOP, (), ()


def joint_page(joint, first, second):
    """Return the joint standing after a new page has become due in style one, in style two, in both or in none."""
    if joint == PARTED:
        return PARTED
    one, two = _sides(joint)
    return _joined(_with_page(one) if first else one, _with_page(two) if second else two)


def joint_block(lengths, joint, count, first, second):
    """Return the joint standing behind a block of so many lines with these values in the two styles."""
    if count > 0 and first[5] != second[5]:
        return PARTED
    behind = joint_page(joint, first[4] and not first[5], second[4] and not second[5])
    if count == 0 or behind == PARTED or first[5]:
        return behind
    one, two = _sides(behind)
    return _joined(_with_lines(lengths[0], one, count, first), _with_lines(lengths[1], two, count, second))


def alike_at_end(joint):
    """Tell whether the joint standing is alike at the end."""
    # At the end pending lines stay where they are, as ahead of a new page in both styles.
    return joint_page(joint, True, True) != PARTED


def _sides(joint):
    """Return the sides of the two styles."""
    standing_one, offsets_one, standing_two, offsets_two, settled = joint
    is_first = len(offsets_one) < len(offsets_two)
    one = (settled if is_first else (), standing_one, offsets_one)
    two = (() if is_first else settled, standing_two, offsets_two)
    return one, two


def _joined(one, two):
    """Return the joint standing of two sides, after the lines that are settled in both have been compared."""
    many = min(len(one[0]), len(two[0]))
    if one[0][:many] != two[0][:many]:
        return PARTED
    return one[1], one[2], two[1], two[2], one[0][many:] + two[0][many:]


def _stayed(standing, offsets):
    """Return (begins, row) of the pending lines if they stay."""
    first = standing[1] - standing[2]
    return tuple([(False, first + offset) for offset in offsets])


def _with_page(side):
    """Return the side after a new page has become due."""
    settled, standing, offsets = side
    return settled + _stayed(standing, offsets), TOP, ()


def _gone_over(offsets):
    """Return (begins, row) of the pending lines if they go over."""
    return tuple([(offset == 0, offset) for offset in offsets])


def _with_lines(length, side, count, values):
    """Return the side behind a block of so many lines; its new page is not asked for here."""
    settled, standing, offsets = side
    page = Page.resumed(length, standing)
    page.block(count, space=values[2], kept=values[3])
    if page.went_over is not None:
        settled = settled + (_gone_over(offsets) if page.went_over else _stayed(standing, offsets))
        offsets = ()
    # The first pending line stands here; the lines that were pending before are the first ones if they still are.
    first = page.now[1] - page.now[2]
    loose = page.finish()[len(page) - page.pending:]
    return settled + tuple(page.settled()), page.now, offsets + tuple([line[1] - first for line in loose])
