"""What the document says, worked out the long way: the tests compare the program with this."""

import itertools

from pressalike.pieces import Block, Inner


class Book:
    """Pages of a book, with every line and every place kept ([6.1] to [6.5])."""

    def __init__(self, length, blocks=()):
        self.length = length
        # A page is a list of (number of the line, row, whether the place ahead of it is barred).
        self.pages = []
        self.is_due, self.is_kept, self.many = True, False, 0
        for count, space, kept, page in blocks:
            self.block(count, space, kept, page)

    def block(self, count, space, kept, page):
        self.is_due = self.is_due or page
        for at in range(count):
            if self.is_due:
                self.pages.append([])
                self.is_due = False
            barred = self.is_kept if at == 0 else at == 1 or at == count - 1
            self.put(self.many, space if at == 0 else 0, barred)
            self.many += 1
        if count > 0:
            self.is_kept = kept

    def put(self, number, space, barred):
        page = self.pages[-1]
        if not page:
            page.append((number, 0, barred))
        elif page[-1][1] + space + 1 < self.length:
            page.append((number, page[-1][1] + space + 1, barred))
        else:
            places = self.free_places()
            at = len(page) if not barred or not places else places[-1]
            over = page[at:]
            del page[at:]
            self.pages.append([(line, row - over[0][1], is_barred) for line, row, is_barred in over])
            self.put(number, space, barred)

    def free_places(self):
        page = self.pages[-1]
        return [at for at in range(1, len(page)) if not page[at][2]]

    def lines(self):
        return [(row == 0, row) for page in self.pages for _, row, _ in page]

    def standing(self):
        if self.is_due:
            return ("top", 0, 0)
        page, places = self.pages[-1], self.free_places()
        height = page[-1][1] + 1
        if height == self.length and (not self.is_kept or not places):
            return ("top", 0, 0)
        if not self.is_kept:
            return ("open", height, 0)
        return ("kept", height, height - page[places[-1]][1] if places else 0)

    def pending(self):
        """The numbers of the pending lines."""
        if self.standing()[0] != "kept" or not self.free_places():
            return []
        return [line for line, _, _ in self.pages[-1][self.free_places()[-1]:]]


def histories(length):
    """A dict from each standing to a few rows of blocks that leave it."""
    blocks = [(count, space, kept, False) for count in (1, 2, 3, 4) for space in (0, 1, 2) for kept in (False, True)]
    found = {("top", 0, 0): [()]}
    todo = [()]
    while todo:
        fresh = []
        for row, block in itertools.product(todo, blocks):
            told = found.setdefault(Book(length, row + (block,)).standing(), [])
            if len(told) < 3:
                told.append(row + (block,))
                fresh.append(row + (block,))
        todo = fresh
    return found


def all_words(letters, most):
    """All words of at most so many letters."""
    return ["".join(word) for many in range(1, most + 1) for word in itertools.product(letters, repeat=many)]


def all_texts(letters, most):
    """All texts that cost at most so much, as pairs (cost, words), ascending."""
    words = all_words(letters, max(most - 1, 0))
    found, layer = [(0, ())], [(0, ())]
    while layer:
        layer = [
            (cost + 1 + len(word), text + (word,))
            for cost, text in layer for word in words if cost + 1 + len(word) <= most
        ]
        found += layer
    return sorted(found)


def text_cost(words):
    return len(words) + sum(map(len, words))


def all_pieces(grammar, kind, marks, most, letters=""):
    """All complete pieces with this label that cost at most so much; without letters all blocks are empty."""
    if most < 1:
        return []
    if grammar.has_blocks(kind):
        texts = all_texts(letters, most - 1) if letters else [(0, ())]
        return [Block(kind, marks, words) for _, words in texts]
    rows = [(0, 0, ())]
    found = []
    while rows:
        found += [Inner(kind, marks, parts) for _, room, parts in rows if grammar.is_final(kind, room)]
        rows = [
            (cost + piece.cost, target, parts + (piece,))
            for cost, room, parts in rows
            for part, part_marks, target in grammar.steps(kind, room)
            for piece in all_pieces(grammar, part, part_marks, most - 1 - cost, letters)
        ]
    return found


def each_context(sheet, tree, context, path=()):
    """All (path, piece, context) of a piece in document order, by [4.5]."""
    yield path, tree, context
    if not tree.is_block:
        face, measure, _, _, _, out = sheet.values_of(tree.kind, tree.marks, context)
        above = "".join(sorted(set(context[1]) | set(tree.marks)))
        elder = ""
        for place, part in enumerate(tree.parts):
            yield from each_context(sheet, part, (tree.kind, above, elder, face, measure, out), path + (place,))
            elder = part.kind
