"""What the document says, worked out the long way: the tests compare the program with this."""

import functools
import itertools

from pressalike.edits import Drop, Marks, Put, Words
from pressalike.grammar import Grammar
from pressalike.joint import joint_block, joint_page
from pressalike.pieces import MARKS, Block, Inner
from pressalike.words import stamps, width


class Book:
    """Pages of a book, with every line and every place kept ([6.1] to [6.5])."""

    def __init__(self, length, blocks=()):
        self.length = length
        # A page is a list of (number of the line, row, whether the place ahead of it is barred).
        self.pages = []
        self.is_due, self.is_kept, self.many = True, False, 0
        for count, space, kept, page in blocks:
            self.block(count, space, kept, page)

    def block(self, count, space, kept, page):
        self.is_due = self.is_due or page
        for at in range(count):
            if self.is_due:
                self.pages.append([])
                self.is_due = False
            barred = self.is_kept if at == 0 else at == 1 or at == count - 1
            self.put(self.many, space if at == 0 else 0, barred)
            self.many += 1
        if count > 0:
            self.is_kept = kept

    def put(self, number, space, barred):
        page = self.pages[-1]
        if not page:
            page.append((number, 0, barred))
        elif page[-1][1] + space + 1 < self.length:
            page.append((number, page[-1][1] + space + 1, barred))
        else:
            places = self.free_places()
            at = len(page) if not barred or not places else places[-1]
            over = page[at:]
            del page[at:]
            self.pages.append([(line, row - over[0][1], is_barred) for line, row, is_barred in over])
            self.put(number, space, barred)

    def free_places(self):
        page = self.pages[-1]
        return [at for at in range(1, len(page)) if not page[at][2]]

    def lines(self):
        return [(row == 0, row) for page in self.pages for _, row, _ in page]

    def standing(self):
        if self.is_due:
            return ("top", 0, 0)
        page, places = self.pages[-1], self.free_places()
        height = page[-1][1] + 1
        if height == self.length and (not self.is_kept or not places):
            return ("top", 0, 0)
        if not self.is_kept:
            return ("open", height, 0)
        return ("kept", height, height - page[places[-1]][1] if places else 0)

    def pending(self):
        """The numbers of the pending lines."""
        if self.standing()[0] != "kept" or not self.free_places():
            return []
        return [line for line, _, _ in self.pages[-1][self.free_places()[-1]:]]


def histories(length):
    """A dict from each standing to a few rows of blocks that leave it."""
    blocks = [(count, space, kept, False) for count in (1, 2, 3, 4) for space in (0, 1, 2) for kept in (False, True)]
    found = {("top", 0, 0): [()]}
    todo = [()]
    while todo:
        fresh = []
        for row, block in itertools.product(todo, blocks):
            told = found.setdefault(Book(length, row + (block,)).standing(), [])
            if len(told) < 3:
                told.append(row + (block,))
                fresh.append(row + (block,))
        todo = fresh
    return found


def all_words(letters, most):
    """All words of at most so many letters."""
    return ["".join(word) for many in range(1, most + 1) for word in itertools.product(letters, repeat=many)]


def all_texts(letters, most):
    """All texts that cost at most so much, as pairs (cost, words), ascending."""
    words = all_words(letters, max(most - 1, 0))
    found, layer = [(0, ())], [(0, ())]
    while layer:
        layer = [
            (cost + 1 + len(word), text + (word,))
            for cost, text in layer for word in words if cost + 1 + len(word) <= most
        ]
        found += layer
    return sorted(found)


def text_cost(words):
    return len(words) + sum(map(len, words))


def all_pieces(grammar, kind, marks, most, letters=""):
    """All complete pieces with this label that cost at most so much; without letters all blocks are empty."""
    if most < 1:
        return []
    if grammar.has_blocks(kind):
        texts = all_texts(letters, most - 1) if letters else [(0, ())]
        return [Block(kind, marks, words) for _, words in texts]
    rows = [(0, 0, ())]
    found = []
    while rows:
        found += [Inner(kind, marks, parts) for _, room, parts in rows if grammar.is_final(kind, room)]
        rows = [
            (cost + piece.cost, target, parts + (piece,))
            for cost, room, parts in rows
            for part, part_marks, target in grammar.steps(kind, room)
            for piece in all_pieces(grammar, part, part_marks, most - 1 - cost, letters)
        ]
    return found


def each_context(sheet, tree, context, path=()):
    """All (path, piece, context) of a piece in document order, by [4.5]."""
    yield path, tree, context
    if not tree.is_block:
        face, measure, _, _, _, out = sheet.values_of(tree.kind, tree.marks, context)
        above = "".join(sorted(set(context[1]) | set(tree.marks)))
        elder = ""
        for place, part in enumerate(tree.parts):
            yield from each_context(sheet, part, (tree.kind, above, elder, face, measure, out), path + (place,))
            elder = part.kind


def plain_lines(measure, widths):
    """Lines of (place of the word, column), by [5.1]: a word joins the line of the word before it if its end fits."""
    lines = []
    for place, wide in enumerate(widths):
        if lines:
            last, column = lines[-1][-1]
            begin = column + widths[last] + 1
            if begin + wide <= measure:
                lines[-1].append((place, begin))
                continue
        lines.append([(place, 0)])
    return tuple(map(tuple, lines))


def block_rows(style, tree):
    """A list of (values, due, words, stamps of the lines) for all blocks, by [7.1] and [7.2]."""
    rows, is_due = [], False
    for _, piece, context in each_context(style.sheet, tree, style.root_context()):
        values = style.sheet.values_of(piece.kind, piece.marks, context)
        if values[4] and not values[5]:
            is_due = True
        if piece.is_block:
            face = style.faces[values[0]] if len(style.faces) == 2 else style.faces[0]
            lines = () if values[5] else plain_lines(values[1], [width(face, word) for word in piece.words])
            told = tuple(
                tuple((ink, begin + column) for place, begin in line for ink, column in stamps(face, piece.words[place]))
                for line in lines
            )
            rows.append((values, is_due, piece.words, told))
            is_due = False
    return rows


def plain_setting(style, tree):
    """The entry standings and the printed lines of all blocks, by [7.2] to [7.4]."""
    book, entries, counts = Book(style.length), [], []
    for values, is_due, _, lines in block_rows(style, tree):
        book.is_due = book.is_due or is_due
        entries.append(None if values[5] else book.standing())
        book.block(len(lines), values[2], values[3], False)
        counts.append(lines)
    places, blocks = iter(book.lines()), []
    for lines in counts:
        blocks.append(tuple(next(places) + (line,) for line in lines))
    return entries, tuple(blocks)


class TwoBooks:
    """Two books of the same lines, by [8.3] to [8.6]."""

    def __init__(self, lengths):
        self.books = [Book(length) for length in lengths]
        self.is_parted = False

    def page(self, first, second):
        for book, is_due in zip(self.books, (first, second)):
            book.is_due = book.is_due or is_due
        self.compare()

    def block(self, count, first, second):
        if count > 0 and first[5] != second[5]:
            self.is_parted = True
        for book, values in zip(self.books, (first, second)):
            if not values[5]:
                book.block(count, values[2], values[3], values[4])
        self.compare()

    def settled(self):
        return [book.lines()[:book.many - len(book.pending())] for book in self.books]

    def compare(self):
        if any(one != two for one, two in zip(*self.settled())):
            self.is_parted = True

    def joint(self):
        if self.is_parted:
            return "parted"
        told = []
        for book in self.books:
            rows = [row for _, row in book.lines()[book.many - len(book.pending()):]]
            told += [book.standing(), tuple(row - rows[0] for row in rows)]
        one, two = self.settled()
        return tuple(told) + (tuple(one[len(two):] + two[len(one):]),)

    def is_alike_at_end(self):
        return not self.is_parted and self.books[0].lines() == self.books[1].lines()


def filled_alike(one, two, first, second, words):
    """The count of lines if both styles fill the words of a block alike, None if this parts them ([8.5])."""
    if first[5] or second[5]:
        return None if words and first[5] != second[5] else len(words)
    faces = (one.face(first[0]), two.face(second[0]))
    lines = [plain_lines(values[1], [width(face, word) for word in words]) for face, values in zip(faces, (first, second))]
    begins = [[line[0][0] for line in rows] for rows in lines]
    if begins[0] != begins[1] or any(stamps(faces[0], word) != stamps(faces[1], word) for word in words):
        return None
    return len(lines[0])


def joint_walk(one, two, piece, first, second, joint, told=None):
    """The joint standing behind a piece; each (kind, marks, context one, context two, ahead, behind, piece) goes to told."""
    values = [style.sheet.values_of(piece.kind, piece.marks, context) for style, context in ((one, first), (two, second))]
    ahead = joint
    if piece.is_block:
        count = filled_alike(one, two, values[0], values[1], piece.words)
        joint = "parted" if count is None else joint_block((one.length, two.length), joint, count, *values)
    else:
        joint = joint_page(joint, *[told_values[4] and not told_values[5] for told_values in values])
        elder = ""
        for part in piece.parts:
            below = [style.sheet.below(piece.kind, piece.marks, context, elder) for style, context in ((one, first), (two, second))]
            joint = joint_walk(one, two, part, below[0], below[1], joint, told)
            elder = part.kind
    if told is not None:
        told.append((piece.kind, piece.marks, first, second, ahead, joint, piece))
    return joint


@functools.lru_cache(maxsize=None)
def one_history(length):
    """A dict from each standing to a row of blocks that leaves it."""
    return {standing: rows[0] for standing, rows in histories(length).items()}


class Set:
    """A piece that is set in a context from a standing, by [9.1].

    `lines` has the entry standing of each block that has a line and is not left out, None for other blocks; `behind` is
    the standing behind; `ahead` has (path, piece, context, standing ahead) of each piece.
    """

    def __init__(self, style, piece, context, standing):
        book = Book(style.length, one_history(style.length)[standing])
        self.lines, self.ahead = [], []
        for path, part, told in each_context(style.sheet, piece, context):
            values = style.sheet.values_of(part.kind, part.marks, told)
            self.ahead.append((path, part, told, book.standing()))
            book.is_due = book.is_due or (values[4] and not values[5])
            if part.is_block:
                face = style.faces[values[0]] if len(style.faces) == 2 else style.faces[0]
                count = 0 if values[5] else len(plain_lines(values[1], [width(face, word) for word in part.words]))
                self.lines.append(book.standing() if count else None)
                book.block(count, values[2], values[3], False)
        self.behind = book.standing()


def ends_of(one, two):
    """The ends of two standings, by [9.3]."""
    return None if one == two else (min(one, two), max(one, two))


def in_order(ends):
    """Ends in their order: pairs ascending, None last."""
    return sorted(ends, key=lambda end: (end is None, end or ()))


def counted(one, two):
    """The number of counted blocks of a piece that is set twice, by [9.3]."""
    return sum(first is not None and first != second for first, second in zip(one.lines, two.lines))


class Edited:
    """A piece that is set before and after an edit, by [9.4]: its ends and its counted blocks behind the own part."""

    def __init__(self, style, piece, edit, context, standing):
        self.old, self.new = Set(style, piece, context, standing), Set(style, edit.apply(piece), context, standing)
        first, stop = edit.own(piece)
        shift = len(self.new.lines) - len(self.old.lines)
        behind = list(zip(self.new.lines[stop:], self.old.lines[stop - shift:]))
        self.ends = ends_of(self.old.behind, self.new.behind)
        self.counted = sum(entry is not None and entry != former for entry, former in behind)


def is_complete(grammar, piece):
    """Whether no piece in the piece is wrong, if its own label is not asked for."""
    rows = {}
    for kind in grammar.kinds:
        rooms = range(grammar.rooms(kind))
        steps = [(room,) + step for room in rooms for step in grammar.steps(kind, room)]
        finals = [room for room in rooms if grammar.is_final(kind, room)]
        rows[kind] = None if grammar.has_blocks(kind) else (len(rooms), steps, finals)
    inside = piece.words if piece.is_block else piece.parts
    return piece.kind in rows and Grammar(piece.kind, rows).fits(type(piece)(piece.kind, "", inside))


def is_held(piece, edit):
    """Whether the piece holds the edit, whose path begins at it, by [9.5]."""
    return edit.path != () or edit.DEED == "words" or (edit.DEED == "marks" and edit.marks == piece.marks)


def each_edit(grammar, tree, deed, most, letters=""):
    """All edits of the deed that apply to the tree and lead to complete pieces; new words and pieces cost at most so much."""
    for path, piece in tree.each_piece():
        edits = []
        if deed == "words" and piece.is_block:
            edits = [Words(path, words) for _, words in (all_texts(letters, most) if letters else [(0, ())])]
        if deed == "marks":
            edits = [Marks(path, marks) for marks in MARKS]
        if deed == "parts" and path != ():
            edits = [Drop(path)]
        if deed == "parts" and not piece.is_block:
            edits += [
                Put(path + (place,), part) for place in range(len(piece) + 1) for kind in grammar.kinds
                for marks in MARKS for part in all_pieces(grammar, kind, marks, most, letters)
            ]
        for edit in edits:
            if is_complete(grammar, edit.apply(tree)):
                yield edit


def gates_at(style, grammar, tree):
    """A list of (path, gate, arrival) of all pieces in document order, by [10.1] and [10.2]."""
    found = []
    for path, piece, context, standing in Set(style, tree, style.root_context(), ("top", 0, 0)).ahead:
        values = style.sheet.values_of(piece.kind, piece.marks, context)
        room = 0
        if path != ():
            parent = tree.piece_at(path[:-1])
            for part in parent.parts[:path[-1]]:
                room = grammar.follow(parent.kind, room, (part.kind, part.marks))
        arrival = ("top", 0, 0) if values[4] and not values[5] else standing
        found.append((path, (room, piece.kind, piece.marks, context), arrival))
    return found


def plain_runs(gates, tree):
    """The runs of a manuscript, by [10.5]."""
    paths = [path for path, _ in tree.each_block()]
    places = {0}
    for path, gate, _ in gates_at(gates.style, gates.grammar, tree):
        before = sum(other < path for other in paths)
        if gates.seam(gate) is not None and before < len(paths):
            places.add(before)
    told = sorted(places)
    return list(zip(told, told[1:] + [len(paths)]))
