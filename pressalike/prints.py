"""Prints: the printed lines of all blocks of a manuscript."""


class Print:
    """One row of printed lines (starts, row, stamps) for each block."""

    def __init__(self, blocks):
        self.blocks = tuple([tuple(lines) for lines in blocks])
        self._lines = tuple([line for lines in self.blocks for line in lines])

    @property
    def pages(self):
        """The number of lines that start a page."""
        return len([line for line in self._lines if line[0]])

    def lines_of(self, number):
        """Return the list of the printed lines on this page, the empty list if there is none."""
        found = []
        page = -1
        for line in self._lines:
            if line[0]:
                page += 1
            # Lines ahead of the first page are on no page.
            if page == number and page >= 0:
                found.append(line)
        return found

    def unlike(self, other):
        """Return the least (block, line) at which the prints differ, None if they are equal."""
        if self == other:
            return None
        many = (len(self.blocks), len(other.blocks))
        for block in range(max(many)):
            mine, theirs = self._lines_at(block), other._lines_at(block)
            for line in range(max(len(mine), len(theirs))):
                if mine[line:line + 1] != theirs[line:line + 1]:
                    return block, line
        return min(many), 0

    def _lines_at(self, block):
        """Return the printed lines of the block, none if there is no such block."""
        return self.blocks[block] if block < len(self.blocks) else ()

    def __len__(self):
        return len(self._lines)

    def __iter__(self):
        return iter(self._lines)

    def __eq__(self, other):
        return isinstance(other, Print) and self.blocks == other.blocks
