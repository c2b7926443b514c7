"""Sheets of rules: winners, values and contexts."""

from pressalike.checks import is_integer_from, is_row
from pressalike.errors import BadRule
from pressalike.rules import Rule

MOST_RULES = 6


class Sheet:
    """A row of at most 6 rules."""

    def __init__(self, rules):
        if not is_row(rules):
            raise BadRule(None)
        for place in range(len(rules)):
            if place == MOST_RULES or not isinstance(rules[place], Rule):
                raise BadRule(place)
        self.rules = tuple(rules)

    def winner(self, kind, marks, context, name):
        """Return the place of the winner of the name, None without a winner."""
        won = None
        for place in range(len(self.rules)):
            rule = self.rules[place]
            if rule.setting(name) is not None and rule(kind, marks, context):
                if won is None or rule.weight >= self.rules[won].weight:
                    won = place
        return won

    def values_of(self, kind, marks, context):
        """Return the values of a piece with this label in this context."""
        found = [self._value(kind, marks, context, name, base) for name, base in _bases(context)]
        is_gone = context[5]
        return tuple(found[:5]) + (is_gone or found[5],)

    def below(self, kind, marks, context, elder):
        """Return the context of a part of such a piece whose elder is `elder`."""
        values = self.values_of(kind, marks, context)
        above = "".join(sorted(set(context[1] + marks)))
        return kind, above, elder, values[0], values[1], values[5]

    def with_rule(self, rule):
        """Return the sheet with this rule behind the others."""
        return Sheet(self.rules + (rule,))

    def without(self, place):
        """Return the sheet without the rule at this place."""
        if not is_integer_from(place, 0, len(self.rules) - 1):
            raise BadRule(place)
        return Sheet(self.rules[:place] + self.rules[place + 1:])

    def _value(self, kind, marks, context, name, base):
        won = self.winner(kind, marks, context, name)
        return base if won is None else self.rules[won].setting(name)

    def __len__(self):
        return len(self.rules)

    def __iter__(self):
        return iter(self.rules)

    def __eq__(self, other):
        return isinstance(other, Sheet) and self.rules == other.rules


def _bases(context):
    """Return the names of the values, each with the value that it has without a winner."""
    return (
        ("face", context[3]),
        ("measure", context[4]),
        ("space", 0),
        ("kept", False),
        ("page", False),
        ("out", False),
    )
