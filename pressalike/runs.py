"""Runs: blocks of a manuscript that are set by themselves, and joined to a print."""

from pressalike.errors import NotSeam
from pressalike.pages import Page
from pressalike.prints import Print
from pressalike.seams import cuts
from pressalike.setter import block_settings, block_stamps, printed_blocks
from pressalike.standings import TOP


class Job:
    """All that a desk needs in order to set some blocks."""

    def __init__(self, ticket, standing, rows):
        self.ticket = ticket
        self.standing = standing
        self.rows = tuple([(due, tuple(values), tuple(words)) for due, values, words in rows])


class Setting:
    """The printed lines of some blocks that have been set."""

    def __init__(self, ticket, blocks):
        self.ticket = ticket
        self.blocks = tuple([tuple(lines) for lines in blocks])


def job_between(gates, tree, first, stop):
    """Return the job for the blocks from first up to stop - 1; its ticket is None."""
    places = cuts(gates, tree)
    if first not in places[:-1]:
        raise NotSeam(first)
    if stop < first or stop not in places:
        raise NotSeam(stop)
    rows = job_rows(gates.style, tree)
    standing = arrivals(gates.style, rows)[first] if first < stop else TOP
    return Job(None, standing, rows[first:stop])


def job_rows(style, tree):
    """Return the list of the rows (due, values, words) of all blocks."""
    words = [block.words for _, block in tree.each_block()]
    return [(due, values, text) for (values, due), text in zip(block_settings(style, tree), words)]


def arrivals(style, rows):
    """Return the list of the arrivals of all blocks of a manuscript with these rows."""
    page = Page(style.length)
    found = []
    for due, values, words in rows:
        if due:
            page.begin()
        found.append(page.now)
        page.block(len(block_stamps(style, values, words)), space=values[2], kept=values[3])
    return found


def set_job(style, job):
    """Return the setting of the job."""
    page = Page.resumed(style.length, job.standing)
    stamped = []
    for due, values, words in job.rows:
        if due:
            page.begin()
        lines = block_stamps(style, values, words)
        page.block(len(lines), space=values[2], kept=values[3])
        stamped.append(lines)
    return Setting(job.ticket, printed_blocks(page, stamped))


def joined(*settings):
    """Return the print of the settings, one behind the other."""
    return Print([lines for setting in settings for lines in setting.blocks])
