"""Two settings together: two pages under the same blocks, and one text set twice."""

from pressalike.pages import Page
from pressalike.pens import least_by_name, least_texts, pens_after, width_pairs
from pressalike.standings import after_block, checked_standing, count_class, line_counts


def both_after(length, pair, *, space=0, kept=False, page=False):
    """Return the list of all (pair, least count) that such a block with at least one line leaves behind the pair."""
    one, two = pair
    found = {}
    for count in line_counts(length):
        first = after_block(length, one, count, space=space, kept=kept, page=page)
        second = after_block(length, two, count, space=space, kept=kept, page=page)
        found.setdefault((first, second), count)
    return sorted([(behind, found[behind]) for behind in found])


def class_pairs(length, one, measure_one, two, measure_two):
    """Return the list of all (class one, class two, least words) of the counts of lines of one text set twice."""
    measures = (measure_one, measure_two)

    def behind(state, widths):
        pens, begins = pens_after(measures, state[:2], widths)
        return pens + (_next_class(length, state[2], begins[0]), _next_class(length, state[3], begins[1]))

    texts = least_texts((0, 0, 0, 0), width_pairs(one, two, max(measure_one, measure_two)), behind)
    return _least_rows([state[2:] + (texts[state],) for state in texts])


def _next_class(length, known, begins):
    """Return the class of a count behind a word that begins a line or does not."""
    return count_class(length, known + 1) if begins else known


def _least_rows(rows):
    """Return the rows (thing, thing, words) ascending, each two things once, with their least words."""
    found = least_by_name([(row[:2], row[2]) for row in rows])
    return sorted([pair + (found[pair],) for pair in found])


def pairs_after(length, found, one, values_one, two, values_two):
    """Return the list of all (standing, standing, least words) that a block with one of the found texts leaves."""
    checked_standing(length, one)
    checked_standing(length, two)
    rows = []
    for first, second, words in found:
        ends = _behind(length, one, first, values_one), _behind(length, two, second, values_two)
        rows.append(ends + (words,))
    return _least_rows(rows)


def _behind(length, standing, count, values):
    """Return the standing behind a block with these values; one that is left out leaves it as it is."""
    _, _, space, kept, page, out = values
    return standing if out else after_block(length, standing, count, space=space, kept=kept, page=page)


def text_pairs(style, one, values_one, two, values_two):
    """Return the list of all (standing, standing, least words) that a block with some text leaves."""
    found = class_pairs(
        style.length, style.face(values_one[0]), values_one[1], style.face(values_two[0]), values_two[1]
    )
    return pairs_after(style.length, found, one, values_one, two, values_two)


def text_after(style, standing, values):
    """Return the list of all (standing, least words) that a block with some text leaves."""
    return [(first, words) for first, _, words in text_pairs(style, standing, values, standing, values)]


def parting_blocks(length, one, two):
    """Return blocks (count, space, kept, page) that part the two standings, None if no blocks do."""
    # Whatever parts two standings, so many kept lines and then lines that are not kept part them, too.
    for many in range(1, length + 2):
        for kept in range(many + 1):
            blocks = [(1, 0, at < kept, False) for at in range(many)]
            if _lines_behind(length, one, blocks) != _lines_behind(length, two, blocks):
                return blocks
    return None


def _lines_behind(length, standing, blocks):
    page = Page.resumed(length, standing)
    for count, space, kept, begins in blocks:
        page.block(count, space=space, kept=kept, page=begins)
    return page.finish()
