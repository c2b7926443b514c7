"""Drawings of printed lines and pages in signs."""

from pressalike.outlines import GRID


def draw_line(line):
    """Return the drawn line of a tuple of stamps: 4 texts of equal length."""
    inked = {}
    for ink, column in line:
        for y in range(GRID):
            for x in range(GRID):
                if ink[y][x] == "#":
                    inked[(column + x, y)] = True
    length = max([cell[0] for cell in inked]) + 1
    return tuple(["".join(["#" if (x, y) in inked else "." for x in range(length)]) for y in range(GRID)])


def draw_page(printed, number, length):
    """Return the list of the texts of all rows of the page, four for each; none if there is no such page."""
    lines = {line[1]: line[2] for line in printed.lines_of(number)}
    if not lines:
        return []
    texts = []
    for row in range(length):
        drawn = draw_line(lines[row]) if row in lines else ("",) * GRID
        texts.append(f"{row:>2}|{drawn[0]}")
        texts.extend([f"  |{text}" for text in drawn[1:]])
    return texts


def draw_print(printed, length):
    """Return the text of all pages."""
    texts = []
    for number in range(printed.pages):
        texts.append(f"page {number + 1:>3} of {printed.pages:>3}")
        texts.extend(draw_page(printed, number, length))
    return "\n".join(texts)
