"""Desks: an office that keeps a manuscript and the settings of its runs."""

from pressalike.checks import is_integer
from pressalike.errors import BadRun
from pressalike.runs import Job, arrivals, job_rows, joined
from pressalike.seams import cut
from pressalike.standings import TOP


class Desks:
    """An office: its manuscript, the runs of it with their tickets, and the settings that have been delivered."""

    def __init__(self, gates, tree):
        self._gates = gates
        self._runs = cut(gates, tree)
        self._jobs = _jobs_of(gates.style, tree, self._runs)
        self._tickets = list(range(len(self._runs)))
        self._next = len(self._runs)
        self._settings = {}
        self.tree = tree

    def runs(self):
        """Return the list of (ticket, first, stop) of all runs in order."""
        return [(ticket,) + run for ticket, run in zip(self._tickets, self._runs)]

    def job(self, ticket):
        """Return the job of the run with this ticket."""
        if not self._is_known(ticket):
            raise BadRun(ticket)
        standing, rows = self._jobs[self._tickets.index(ticket)]
        return Job(ticket, standing, rows)

    def deliver(self, *settings):
        """Keep the settings; return the list of the tickets of those that are not late."""
        known = [setting for setting in settings if self._is_known(setting.ticket)]
        for setting in known:
            first, stop = self._runs[self._tickets.index(setting.ticket)]
            if len(setting.blocks) != stop - first:
                raise BadRun(setting.ticket)
        for setting in known:
            self._settings[setting.ticket] = setting
        return [setting.ticket for setting in known]

    def missing(self):
        """Return the list of the tickets of the runs that have no setting."""
        return [ticket for ticket in self._tickets if ticket not in self._settings]

    def revise(self, edit):
        """Revise the manuscript; return the list of the new tickets."""
        tree = edit.apply(self.tree)
        runs = cut(self._gates, tree)
        jobs = _jobs_of(self._gates.style, tree, runs)
        kept = self._kept_tickets(runs, jobs, edit.own(self.tree))
        fresh = []
        for at in range(len(runs)):
            if kept[at] is None:
                kept[at] = self._next + len(fresh)
                fresh.append(kept[at])
        self._runs, self._jobs, self._tickets, self.tree = runs, jobs, kept, tree
        self._next += len(fresh)
        self._settings = {ticket: self._settings[ticket] for ticket in kept if ticket in self._settings}
        return fresh

    def printed(self):
        """Return the print of all settings in the order of the runs, None if a run has no setting."""
        if self.missing():
            return None
        settings = [self._settings[ticket] for ticket in self._tickets]
        return joined(*settings)

    def _is_known(self, ticket):
        return is_integer(ticket) and ticket in self._tickets

    def _kept_tickets(self, runs, jobs, own):
        """Return a list with the old ticket of each new run, None for a run that needs a new one."""
        first, stop = own
        shift = runs[-1][1] - self._runs[-1][1]
        kept = []
        for run, job in zip(runs, jobs):
            old = None
            if run[1] <= first:
                old = run
            elif run[0] >= stop:
                old = (run[0] - shift, run[1] - shift)
            is_kept = old in self._runs and self._jobs[self._runs.index(old)] == job
            kept.append(self._tickets[self._runs.index(old)] if is_kept else None)
        return kept


def _jobs_of(style, tree, runs):
    """Return the list of (standing, rows) of the jobs of the runs."""
    rows = job_rows(style, tree)
    standings = arrivals(style, rows)
    return [(standings[first] if first < stop else TOP, rows[first:stop]) for first, stop in runs]
