"""Rules: which pieces they match, and which values they set."""

from pressalike.checks import is_integer_from, is_row
from pressalike.errors import BadRule
from pressalike.pieces import KINDS

VALUE_NAMES = ("face", "measure", "space", "kept", "page", "out")
PATTERN_NAMES = ("kind", "mark", "parent", "above", "elder")

_LIMITS = {"face": (0, 1), "measure": (1, 6), "space": (0, 2)}


def values_for(name):
    """Return all values that a setting for the name may have, ascending."""
    if name in _LIMITS:
        low, high = _LIMITS[name]
        return tuple(range(low, high + 1))
    return False, True


def texts_for(name):
    """Return all texts that the pattern may have for the name beside ""."""
    return ("x", "y") if name in ("mark", "above") else KINDS


class Rule:
    """A weight, a pattern and settings."""

    def __init__(self, weight, *, kind="", mark="", parent="", above="", elder="", **sets):
        pattern = (kind, mark, parent, above, elder)
        if not is_integer_from(weight, 0, 9) or not _is_pattern(pattern) or not sets:
            raise BadRule(None)
        if not all([_is_setting(name, sets[name]) for name in sets]):
            raise BadRule(None)
        self.weight = weight
        self.pattern = pattern
        self.settings = tuple([(name, sets[name]) for name in VALUE_NAMES if name in sets])

    @classmethod
    def made(cls, weight, pattern, settings):
        """Return the rule with this pattern and these settings, pairs in any order."""
        if not is_row(pattern) or len(pattern) != len(PATTERN_NAMES):
            raise BadRule(None)
        if not is_row(settings) or not all([_is_pair(pair) for pair in settings]):
            raise BadRule(None)
        given = dict(zip(PATTERN_NAMES, pattern))
        for name, value in settings:
            if name in given:
                raise BadRule(None)
            given[name] = value
        return cls(weight, **given)

    def setting(self, name):
        """Return the value that the rule sets for the name, None if it sets none."""
        for other, value in self.settings:
            if other == name:
                return value
        return None

    def __call__(self, kind, marks, context):
        kind_text, mark, parent, above, elder = self.pattern
        if kind_text not in ("", kind) or parent not in ("", context[0]) or elder not in ("", context[2]):
            return False
        return mark in marks and above in context[1]

    def __eq__(self, other):
        if not isinstance(other, Rule):
            return False
        return self.weight == other.weight and self.pattern == other.pattern and self.settings == other.settings


def _is_pattern(pattern):
    for name, text in zip(PATTERN_NAMES, pattern):
        if text not in ("",) + texts_for(name):
            return False
    return True


def _is_pair(pair):
    return is_row(pair) and len(pair) == 2 and pair[0] in VALUE_NAMES


def _is_setting(name, value):
    if name in _LIMITS:
        low, high = _LIMITS[name]
        return is_integer_from(value, low, high)
    return name in VALUE_NAMES and (value is True or value is False)
