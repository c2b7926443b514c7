"""The text of a grammar, and the grammar of a text."""

from pressalike.errors import BadLine
from pressalike.grammar import Grammar
from pressalike.pieces import KINDS, MARKS

_ROOM_SIGNS = ("0", "1", "2")
_MANY_SIGNS = ("1", "2", "3")


def write_grammar(grammar):
    """Return the text of the grammar."""
    return "\n".join([f"root {grammar.root}"] + [_row_line(grammar, kind) for kind in grammar.kinds])


def _row_line(grammar, kind):
    if grammar.has_blocks(kind):
        return f"{kind} words"
    parts = [kind, str(grammar.rooms(kind))]
    finals = []
    for room in range(grammar.rooms(kind)):
        for part, marks, target in grammar.steps(kind, room):
            parts.append(f"{room}>{part}{marks}>{target}")
        if grammar.is_final(kind, room):
            finals.append(str(room))
    return " ".join(parts + ["ends"] + finals)


def read_grammar(text):
    """Return the grammar of the text; BadLine(number) for the first wrong line, then BadGrammar."""
    lines = text.split("\n")
    first = lines[0].split(" ")
    if len(first) != 2 or first[0] != "root" or first[1] not in KINDS:
        raise BadLine(0)
    rows = {}
    for number in range(1, len(lines)):
        parts = lines[number].split(" ")
        if not _is_line(parts) or parts[0] in rows:
            raise BadLine(number)
        rows[parts[0]] = _row_of(parts)
    return Grammar(first[1], rows)


def _is_line(parts):
    """Tell whether a line behind the first one may have these parts."""
    if parts[0] not in KINDS:
        return False
    if parts[1:] == ["words"]:
        return True
    if "ends" not in parts or parts[1] not in _MANY_SIGNS:
        return False
    behind = parts.index("ends")
    if not all([_is_step(part) for part in parts[2:behind]]):
        return False
    return all([part in _ROOM_SIGNS for part in parts[behind + 1:]])


def _is_step(part):
    fields = part.split(">")
    if len(fields) != 3 or fields[0] not in _ROOM_SIGNS or fields[2] not in _ROOM_SIGNS:
        return False
    return fields[1][:1] in KINDS and fields[1][1:] in MARKS


def _row_of(parts):
    """Return the row that the parts of a right line tell."""
    if parts[1] == "words":
        return None
    behind = parts.index("ends")
    steps = [_step_of(part) for part in parts[2:behind]]
    return int(parts[1]), steps, [int(part) for part in parts[behind + 1:]]


def _step_of(part):
    room, label, target = part.split(">")
    return int(room), label[:1], label[1:], int(target)
