"""Plain pages: a whole book at once, line by line as the rules of pages say."""


def plain_pages(length, blocks):
    """Return the list of (starts, row) of all lines of the book."""
    pages = []
    for space, barred, begins in _lines_of(blocks):
        if begins or not _fits(length, pages[-1], space):
            pages.append([] if begins else _taken_over(pages[-1], barred))
            if pages[-1] and not _fits(length, pages[-1], space):
                pages.append([])
        row = pages[-1][-1][0] + space + 1 if pages[-1] else 0
        pages[-1].append((row, barred))
    return [(row == 0, row) for page in pages for row, _ in page]


def _lines_of(blocks):
    """Return the list of (space ahead, whether the place ahead is barred, whether a new page is due) of all lines."""
    lines = []
    is_due, is_kept = True, False
    for count, space, kept, page in blocks:
        is_due = is_due or page
        for at in range(count):
            if at == 0:
                lines.append((space, is_kept, is_due))
            else:
                lines.append((0, at in (1, count - 1), False))
        if count > 0:
            is_due, is_kept = False, kept
    return lines


def _fits(length, page, space):
    return page[-1][0] + space + 1 < length


def _taken_over(page, barred):
    """Take the lines from the place on at which the page is broken off the page; return them as the next page."""
    places = [at for at in range(1, len(page)) if not page[at][1]]
    if not barred or not places:
        return []
    first = page[places[-1]][0]
    over = [(row - first, is_barred) for row, is_barred in page[places[-1]:]]
    del page[places[-1]:]
    return over
