"""Rank rows: what is behind edits or holds them, and how many counted blocks it can have."""

from pressalike.fronts import Fronts, behind_part
from pressalike.frontsearch import FOLLOWED
from pressalike.outcomes import ends_in_order
from pressalike.sights import Sight


def rank_rows(style, outcomes):
    """Return the list of all rank rows; the outcomes are those of the root, each with a greatest number."""
    entries = _entries(style, outcomes)
    rows = []
    for entry in sorted(list(entries)):
        number = entries[entry]
        for end in ends_in_order(outcomes.search.ends[number]):
            rows.append(entry + (end, outcomes.number_of(number, end)))
    return rows


def _entries(style, outcomes):
    """Return a dict from each entry to the number of its inside; the entry begins with "behind" or "edit".

    The search sees contexts as the rules do. Here all contexts are gone through, and the search tells what can come
    of each.
    """
    search = outcomes.search
    fronts = Fronts(Sight(style), search.fronts.grammar, search.fronts.deed)
    found, known = {}, {}
    todo = [_inside_of(fronts, search, outcomes.request, found)]
    while todo:
        front = todo.pop()
        if front not in known:
            known[front] = True
            if front[0] == "same" and front[2] is not None:
                todo.append(front[2])
            for step in fronts.steps(front) if front[0] in FOLLOWED else []:
                if step[4][0] in ("pair", "edit"):
                    todo.append(_inside_of(fronts, search, step[4], found))
                ends = search.ends[search.asked(step[4])]
                todo.extend([behind_part(step[0], step[5], end) for end in ends])
    return found


def _inside_of(fronts, search, request, found):
    """Return the inside that the request asks for; note the entry of the request."""
    sort = "behind" if request[0] == "pair" else "edit"
    found[(sort,) + request[1:]] = search.asked(request)
    return fronts.inside(request)
