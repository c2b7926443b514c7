"""The text of a piece, and the piece of a text."""

from pressalike.checks import LETTERS, MOST_LETTERS
from pressalike.errors import BadText
from pressalike.pieces import KINDS, Block, Inner

MOST_LEVELS = 60


def write_tree(piece):
    """Return the text of the piece."""
    written = []
    todo = [piece]
    while todo:
        thing = todo.pop()
        if isinstance(thing, str):
            written.append(thing)
        elif thing.is_block:
            written.append(thing.kind + thing.marks + "[" + " ".join(thing.words) + "]")
        else:
            written.append(thing.kind + thing.marks + "{")
            todo.extend(_inside(thing)[::-1])
    return "".join(written)


def _inside(piece):
    """Return what follows the opening brace: parts and texts, in order."""
    row = []
    for part in piece.parts:
        if row:
            row.append(" ")
        row.append(part)
    return row + ["}"]


def read_tree(text):
    """Return the piece with this text; BadText(at) with the first sign that cannot stand there."""
    piece, at = _read_piece(text, 0, 1)
    if at < len(text):
        raise BadText(at)
    return piece


def _sign(text, at):
    """Return the sign at the index, "" behind the end."""
    return text[at:at + 1]


def _read_piece(text, at, level):
    """Return the piece on this level that begins at the index, and the index behind it."""
    kind = _sign(text, at)
    if kind not in KINDS:
        raise BadText(at)
    marks, at = _read_marks(text, at + 1)
    if _sign(text, at) == "[":
        words, at = _read_words(text, at + 1)
        return Block(kind, marks, words), at
    if _sign(text, at) == "{":
        parts, at = _read_parts(text, at + 1, level + 1)
        return Inner(kind, marks, parts), at
    raise BadText(at)


def _read_marks(text, at):
    marks = ""
    for mark in ("x", "y"):
        if _sign(text, at) == mark:
            marks += mark
            at += 1
    return marks, at


def _read_words(text, at):
    """Return the words and the index behind their closing bracket."""
    words = []
    if _sign(text, at) == "]":
        return words, at + 1
    while True:
        word, at = _read_word(text, at)
        words.append(word)
        if _sign(text, at) == "]":
            return words, at + 1
        if _sign(text, at) != " ":
            raise BadText(at)
        at += 1


def _read_word(text, at):
    stop = at
    # The tuple keeps "" from counting as a letter.
    while stop - at < MOST_LETTERS and _sign(text, stop) in tuple(LETTERS):
        stop += 1
    if stop == at:
        raise BadText(at)
    return text[at:stop], stop


def _read_parts(text, at, level):
    """Return the parts, which stand on this level, and the index behind their closing brace."""
    parts = []
    if _sign(text, at) == "}":
        return parts, at + 1
    if level > MOST_LEVELS:
        raise BadText(at)
    while True:
        part, at = _read_piece(text, at, level)
        parts.append(part)
        if _sign(text, at) == "}":
            return parts, at + 1
        if _sign(text, at) != " ":
            raise BadText(at)
        at += 1
