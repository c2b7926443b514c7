"""Entries: in which contexts the pieces of a grammar occur, and what rules and styles do there."""

from heapq import heappop, heappush

from pressalike.checks import is_integer_from
from pressalike.errors import BadRule
from pressalike.leasttrees import least, rest
from pressalike.pieces import Inner
from pressalike.rules import VALUE_NAMES


def with_elder(context, elder):
    """Return the context of a part with this elder, beside a part with the given context."""
    return context[:2] + (elder,) + context[3:]


def dead_rules(style, grammar):
    """Return the list of the places of the dead rules."""
    live = _live_rules(style, Entries(grammar, style))
    return [place for place in range(len(style.sheet)) if place not in live]


def rule_shown(style, grammar, place):
    """Return (name, manuscript, path) for a piece at which the rule wins the name, None if it is dead."""
    if not is_integer_from(place, 0, len(style.sheet) - 1):
        raise BadRule(place)
    entries = Entries(grammar, style)
    live = _live_rules(style, entries)
    if place not in live:
        return None
    name, entry = live[place]
    return (name,) + entries.shown(entry)


def _live_rules(style, entries):
    """Return a dict from the place of each live rule to (name, entry): a name that it wins there."""
    live = {}
    for entry in entries:
        for name in _telling_names(style, entry):
            won = style.sheet.winner(entry[0], entry[1], entry[2], name)
            if won is not None:
                live.setdefault(won, (name, entry))
    return live


def _telling_names(style, entry):
    """Return the names whose winners are live at the entry."""
    kind, marks, context = entry
    if context[5]:
        return ()
    return ("out",) if style.sheet.values_of(kind, marks, context)[5] else VALUE_NAMES


def agree(one, two, grammar):
    """Tell whether the two styles agree for the grammar."""
    trimmed = grammar.trimmed()
    if one.length != two.length or one.faces != two.faces:
        return False
    return all([_agree_at(one, two, entry) for entry in Entries(trimmed, one, two)])


def _agree_at(one, two, entry):
    kind, marks, first, second = entry
    values = one.sheet.values_of(kind, marks, first)
    others = two.sheet.values_of(kind, marks, second)
    # Where both contexts are gone, the piece is left out in both.
    return values == others or (values[5] and others[5])


class Entries:
    """The entries of a grammar and no, one or two styles."""

    def __init__(self, grammar, *styles):
        self._grammar = grammar.trimmed()
        self._found = _found_entries(self._grammar, styles)
        self._rows = tuple(sorted(self._found))

    def shown(self, entry):
        """Return (manuscript, path) with least cost for the entry, None if it does not occur."""
        if entry not in self._found:
            return None
        piece, path = least(self._grammar, entry[0], entry[1]), ()
        above, ahead, behind = self._found[entry]
        while above is not None:
            piece = Inner(above[0], above[1], ahead + (piece,) + behind)
            path = (len(ahead),) + path
            above, ahead, behind = self._found[above]
        return piece, path

    def __iter__(self):
        return iter(self._rows)

    def __len__(self):
        return len(self._rows)


def _found_entries(grammar, styles):
    """Return a dict from each entry to (entry above, parts ahead, parts behind), with the least cost beside it."""
    gaps = {kind: _gaps_of(grammar, kind) for kind in grammar.kinds}
    root = (grammar.root, "") + tuple([style.root_context() for style in styles])
    found = {}
    number = 0
    # The number keeps the queue from comparing what stands behind it.
    queue = [(0, number, root, (None, (), ()))]
    while queue:
        cost, _, entry, way = heappop(queue)
        if entry in found:
            continue
        found[entry] = way
        kind, marks = entry[:2]
        below = [style.sheet.below(kind, marks, context, "") for style, context in zip(styles, entry[2:])]
        for elder, label, ahead, behind in gaps[kind]:
            part = label + tuple([with_elder(context, elder) for context in below])
            if part not in found:
                number += 1
                beside = cost + 1 + parts_cost(ahead + behind)
                heappush(queue, (beside, number, part, (entry, ahead, behind)))
    return found


def _gaps_of(grammar, kind):
    """Return a list of (elder, label, least parts ahead, least parts behind) for all parts of pieces of the kind."""
    fronts = _fronts_of(grammar, kind)
    steps = [
        (elder, (part, marks), fronts[(room, elder)], target)
        for room, elder in fronts
        for part, marks, target in grammar.steps(kind, room)
    ]
    # Rooms that no step leads to may have no way to an end.
    rests = {step[3]: rest(grammar, kind, step[3]) for step in steps}
    return [step[:3] + (rests[step[3]],) for step in steps]


def _fronts_of(grammar, kind):
    """Return a dict from each (room, elder) to the least parts that lead there; the elder is the kind of the last."""
    fronts = {(0, ""): ()}
    todo = [(0, "")]
    steps = _steps_with_pieces(grammar, kind)
    while todo:
        begin = todo.pop()
        for room, piece, target in steps:
            end, parts = (target, piece.kind), fronts[begin] + (piece,)
            if room == begin[0] and (end not in fronts or parts_cost(parts) < parts_cost(fronts[end])):
                fronts[end] = parts
                todo.append(end)
    return fronts


def _steps_with_pieces(grammar, kind):
    """Return a list of (room, least piece of the step, target) for all steps of the kind."""
    return [
        (room, least(grammar, part, marks), target)
        for room in range(grammar.rooms(kind))
        for part, marks, target in grammar.steps(kind, room)
    ]


def parts_cost(parts):
    """Return the sum of the costs of the parts."""
    return sum([part.cost for part in parts])
