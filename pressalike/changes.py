"""Changes of a style, and what it is with some of them taken back."""

from pressalike.checks import is_integer_from, is_row
from pressalike.errors import BadChange
from pressalike.rules import Rule
from pressalike.sheets import MOST_RULES, Sheet
from pressalike.styles import Style

MOST_CHANGES = 6

_LIMITS = {"length": (2, 4), "measure": (1, 6)}


def checked_changes(style, changes):
    """Return the changes as a tuple; BadChange(place) for the first place at which they are wrong."""
    if not is_row(changes):
        raise BadChange(None)
    for place in range(len(changes)):
        ahead = changes[:place]
        if place == MOST_CHANGES or not _is_change(style, changes[place]) or _is_too_many(style, ahead, changes[place]):
            raise BadChange(place)
    return tuple(changes)


def _is_change(style, change):
    """Tell whether this is a change of the style."""
    if not isinstance(change, tuple) or len(change) == 0:
        return False
    word = change[0]
    if word == "add":
        return len(change) == 2 and isinstance(change[1], Rule)
    if word in ("length", "measure"):
        return len(change) == 2 and is_integer_from(change[1], _LIMITS[word][0], _LIMITS[word][1])
    if word not in ("set", "drop") or len(change) != (3 if word == "set" else 2):
        return False
    return is_integer_from(change[1], 0, len(style.sheet) - 1) and (word == "drop" or isinstance(change[2], Rule))


def _is_too_many(style, ahead, change):
    """Tell whether the change is one too many beside the changes ahead of it."""
    word = change[0]
    if word == "add":
        return len(style.sheet) + len([other for other in ahead if other[0] == "add"]) >= MOST_RULES
    if word in ("length", "measure"):
        return any([other[0] == word for other in ahead])
    return any([other[0] in ("set", "drop") and other[1] == change[1] for other in ahead])


def changed(style, changes, back=()):
    """Return the style with all changes except those whose places are in `back`."""
    known = checked_changes(style, changes)
    lot = checked_lot(len(known), back)
    return _with_changes(style, [known[place] for place in range(len(known)) if place not in lot])


def checked_lot(count, back):
    """Return the lot of these places of so many changes; BadChange(item) for the first that is no place."""
    for item in back:
        if not is_integer_from(item, 0, count - 1):
            raise BadChange(item)
    return tuple(sorted(set(back)))


def _with_changes(style, changes):
    rules = [[rule] for rule in style.sheet]
    added = []
    told = {"length": style.length, "measure": style.measure}
    for change in changes:
        if change[0] == "set":
            rules[change[1]] = [change[2]]
        elif change[0] == "drop":
            rules[change[1]] = []
        elif change[0] == "add":
            added.append(change[1])
        else:
            told[change[0]] = change[1]
    sheet = Sheet([rule for place in rules for rule in place] + added)
    return Style(sheet, style.faces, length=told["length"], measure=told["measure"])


def all_lots(count):
    """Yield all lots of so many places in their order."""
    lots = [()]
    while lots:
        for lot in lots:
            yield lot
        lots = [lot + (place,) for lot in lots for place in range(lot[-1] + 1 if lot else 0, count)]
