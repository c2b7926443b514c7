"""Pages: blocks are put onto them one by one."""

from pressalike.standings import TOP, checked_standing, line_place, next_line, standing_of


class Page:
    """Puts blocks onto pages and tells where their lines stand."""

    def __init__(self, length):
        self.length = length
        self._standing = TOP
        self._rows = []
        # The last lines of `_rows` that are pending; rows that were pending before this Page began do not count.
        self._loose = 0
        self._went_over = False

    @staticmethod
    def resumed(length, standing):
        """Return a Page that goes on behind blocks that left this standing."""
        page = Page(length)
        page._standing = checked_standing(length, standing)
        page._went_over = None if standing[2] > 0 else False
        return page

    def begin(self):
        """Make a new page due."""
        self._standing = TOP
        self._settle()

    def block(self, count, *, space=0, kept=False, page=False):
        """Set a block of so many lines."""
        if page:
            self.begin()
        if count == 0:
            return
        ahead = self._standing
        height, tail = ahead[1:]
        for at in range(count):
            above, barred = line_place(ahead, at, count, space)
            before = height - tail
            height, tail, over = next_line(self.length, height, tail, above, barred)
            if over:
                self._go_over(before)
            self._put(height, tail)
        self._standing = standing_of(self.length, height, tail, kept)
        if self._standing[2] == 0:
            self._settle()

    def _put(self, height, tail):
        """Note the line that ends in this height with this tail."""
        self._rows.append(height - 1)
        if tail > 1:
            self._loose += 1
        else:
            self._settle()
            self._loose = tail

    def _go_over(self, rows):
        """Take the pending lines up by so many rows: those that stay on the former page."""
        first = len(self._rows) - self._loose
        self._rows[first:] = [row - rows for row in self._rows[first:]]
        if self._went_over is None:
            self._went_over = True

    def _settle(self):
        """Leave the pending lines where they are."""
        self._loose = 0
        if self._went_over is None:
            self._went_over = False

    @property
    def now(self):
        """The standing."""
        return self._standing

    @property
    def pending(self):
        """The number of lines of this Page that are pending."""
        return self._loose

    @property
    def went_over(self):
        """Whether the rows went over that were pending where this Page was resumed; None while they are pending."""
        return self._went_over

    def settled(self):
        """Return the list of (starts, row) of the lines that are not pending."""
        return self.finish()[:len(self._rows) - self._loose]

    def finish(self):
        """Return the list of (starts, row) of all lines; pending ones stand where they are now."""
        return [(row == 0, row) for row in self._rows]

    def __len__(self):
        return len(self._rows)
