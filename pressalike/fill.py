"""Filling: texts in lines under a measure."""

from pressalike.words import width


def fill_widths(measure, widths):
    """Return the lines of words of these widths, each a tuple of (place of the word, column)."""
    lines = []
    end = 0
    for place in range(len(widths)):
        column = end + 1
        if lines and column + widths[place] <= measure:
            lines[-1].append((place, column))
        else:
            column = 0
            lines.append([(place, column)])
        end = column + widths[place]
    return tuple([tuple(line) for line in lines])


def fill(face, measure, words):
    """Return the lines of the text, each a tuple of (word, column)."""
    lines = fill_widths(measure, [width(face, word) for word in words])
    return tuple([tuple([(words[place], column) for place, column in line]) for line in lines])


def line_count(face, measure, words):
    """Return the number of lines of the text."""
    return len(fill(face, measure, words))
