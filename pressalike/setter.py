"""The setter: a tree is set under a style."""

from pressalike.contexts import with_elder
from pressalike.fill import fill
from pressalike.pages import Page
from pressalike.prints import Print
from pressalike.words import stamps


def pieces_in_context(style, tree):
    """Return the list of (piece, context) of all pieces in document order."""
    found = []
    todo = [(tree, style.root_context())]
    while todo:
        piece, context = todo.pop()
        found.append((piece, context))
        if not piece.is_block:
            todo.extend(_parts_in_context(style.sheet, piece, context)[::-1])
    return found


def _parts_in_context(sheet, piece, context):
    below = sheet.below(piece.kind, piece.marks, context, "")
    elders = [""] + [part.kind for part in piece.parts]
    return [(part, with_elder(below, elder)) for part, elder in zip(piece.parts, elders)]


def block_settings(style, tree):
    """Return the list of (values, due) of all blocks in document order."""
    found = []
    is_due = False
    for piece, context in pieces_in_context(style, tree):
        values = style.sheet.values_of(piece.kind, piece.marks, context)
        is_due = is_due or (values[4] and not values[5])
        if piece.is_block:
            found.append((values, is_due))
            is_due = False
    return found


def block_stamps(style, values, words):
    """Return the tuple of the stamps of the lines of a block, none if it is left out."""
    if values[5]:
        return ()
    face = style.face(values[0])
    return tuple([_line_stamps(face, line) for line in fill(face, values[1], words)])


def _line_stamps(face, line):
    return tuple([(ink, begin + column) for word, begin in line for ink, column in stamps(face, word)])


def enter_block(page, values, is_due):
    """Come to a block with these values on the page; return its entry standing, None if it is left out."""
    if is_due:
        page.begin()
    return None if values[5] else page.now


def printed_blocks(page, stamped):
    """Return one tuple of printed lines for each block that the page has set; `stamped` has their stamps."""
    places = page.finish()
    blocks = []
    first = 0
    for lines in stamped:
        told = places[first:first + len(lines)]
        blocks.append(tuple([place + (line,) for place, line in zip(told, lines)]))
        first += len(lines)
    return blocks


def standing_before(style, tree):
    """Return the list of the entry standings of all blocks."""
    return _set_tree(style, tree)[0]


def print_tree(style, tree):
    """Return the print of the tree."""
    return _set_tree(style, tree)[1]


def _set_tree(style, tree):
    """Return the entry standings of all blocks and the print."""
    page = Page(style.length)
    words = [block.words for _, block in tree.each_block()]
    entries, stamped = [], []
    for (values, is_due), text in zip(block_settings(style, tree), words):
        lines = block_stamps(style, values, text)
        entries.append(enter_block(page, values, is_due))
        page.block(len(lines), space=values[2], kept=values[3])
        stamped.append(lines)
    return entries, Print(printed_blocks(page, stamped))
