"""The text of a sheet, and the sheet of a text."""

from pressalike.errors import BadLine
from pressalike.rules import PATTERN_NAMES, VALUE_NAMES, Rule, texts_for, values_for
from pressalike.sheets import MOST_RULES, Sheet


def write_rule(rule):
    """Return the line of the rule."""
    asked = [_part(name, text) for name, text in zip(PATTERN_NAMES, rule.pattern) if text != ""]
    told = [_part(name, value) for name, value in rule.settings]
    return " ".join([str(rule.weight)] + asked + [":"] + told)


def write_sheet(sheet):
    """Return the text of the sheet."""
    return "\n".join([write_rule(rule) for rule in sheet])


def read_sheet(text):
    """Return the sheet of the text; BadLine(number) for the first wrong line."""
    if text == "":
        return Sheet([])
    rules = []
    for line in text.split("\n"):
        fields = _fields_of(line)
        if fields is None or len(rules) == MOST_RULES:
            raise BadLine(len(rules))
        rules.append(Rule.made(fields[0], fields[1], fields[2]))
    return Sheet(rules)


def _part(name, value):
    """Return the part of a line that tells a text of the pattern or a setting."""
    if value is True:
        return f"{name}=yes"
    if value is False:
        return f"{name}=no"
    return f"{name}={value}"


def _fields_of(line):
    """Return (weight, pattern, settings) of the line of a rule, None for any other line."""
    parts = line.split(" ")
    if ":" not in parts:
        return None
    colon = parts.index(":")
    weight = _weight_of(parts[:1])
    asked = _found(parts[1:colon], [(name, text) for name in PATTERN_NAMES for text in texts_for(name)])
    told = _found(parts[colon + 1:], [(name, value) for name in VALUE_NAMES for value in values_for(name)])
    if weight is None or asked is None or not told:
        return None
    given = dict(asked)
    return weight, [given.get(name, "") for name in PATTERN_NAMES], told


def _weight_of(parts):
    for weight in range(10):
        if parts == [str(weight)]:
            return weight
    return None


def _found(parts, pairs):
    """Return the pairs that the parts tell, None if one tells none, or a name comes twice or too early."""
    found = []
    last = -1
    names = [pair[0] for pair in pairs]
    for part in parts:
        told = [pair for pair in pairs if _part(pair[0], pair[1]) == part]
        if not told or names.index(told[0][0]) <= last:
            return None
        last = names.index(told[0][0])
        found.append(told[0])
    return found
